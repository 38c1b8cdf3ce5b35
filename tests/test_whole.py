"""What is promised over the whole program: lists that are told and handed in, and refusals that are due at once."""

import copy
import itertools
import unittest

from samples import NO_CHANGES, NO_PICTURES, listed, some_pictures

from fourfold.albums import Album, album_text, read_album
from fourfold.areas import area_at, area_sizes, areas, poured
from fourfold.blocks import block_at, blocks, neighbours, of_blocks
from fourfold.changes import are_apart, back_of, behind, between, changed, is_change, squares_set, worths_unlike
from fourfold.edits import cut_out, filled, put, with_quarter
from fourfold.errors import (BadBox, FourError, NoBlocks, NoChange, NoName, NoNumber, NoPicture, NoRule, NoSpot, NoText,
                             Unlike)
from fourfold.measures import box_of, framed, like_rows, runs_in, worths_in
from fourfold.painters import Painter
from fourfold.pictures import alike, is_picture, lean, of_rows, shown_rows, worth_at
from fourfold.rules import all_joined, joined, led_over, shaped
from fourfold.shelves import Shelf
from fourfold.sizes import fewest_parts, of_quarters, plain_parts, quarter_of
from fourfold.sums import count_in, greatest_in, is_plain, least_in, sum_in, sums_across, sums_down, total
from fourfold.texts import picture_text, read_picture, read_rows, rows_text
from fourfold.turns import all_ways, by_way, ways_to
from fourfold.views import best_view, least_wrong, seen_from

PICTURE = (2, (0, (1, 1, 2, 1), 0, 9))
TABLE = (9, 8, 7, 6, 5, 4, 3, 2, 1, 0)
BOX = (0, 0, 1, 1)

SHELF = Shelf()
SHELF.keep(PICTURE)

ALBUM = Album()
for name in ("b", "a", "c"):
    ALBUM.put(name, PICTURE)
ALBUM.put("small", (1, 5))
ALBUM.put("large", (3, 5))

TOLD_LISTS = {
    "all_ways": lambda: all_ways(PICTURE),
    "ways_to": lambda: ways_to((1, 5), (1, 5)),
    "sums_across": lambda: sums_across(PICTURE),
    "sums_down": lambda: sums_down(PICTURE),
    "blocks": lambda: blocks(PICTURE),
    "neighbours": lambda: neighbours(PICTURE, 0, 0),
    "area_at": lambda: area_at(PICTURE, 2, 0),
    "areas": lambda: areas(PICTURE),
    "area_sizes": lambda: area_sizes(PICTURE),
    "squares_set": lambda: squares_set(PICTURE),
    "used_by": lambda: SHELF.used_by(11),
    "used_by, a worth": lambda: SHELF.used_by(3),
    "worths_in": lambda: worths_in(PICTURE),
    "runs_in": lambda: runs_in(PICTURE, 0),
    "like_rows": lambda: like_rows(PICTURE),
    "names": lambda: ALBUM.names(),
    "same_as": lambda: ALBUM.same_as("a"),
}

FOUR = [(1, (1, 1, 1, 1)), (1, (1, 2, 3, 4)), (1, 5), (1, 6)]

# Calls with a list, and the list; most of them are refused.
HANDED_LISTS = {
    "of_quarters": (of_quarters, FOUR),
    "of_quarters, unlike": (of_quarters, [(1, 5), (1, 5), (1, 5), (2, 5)]),
    "all_joined": (lambda handed: all_joined("sum", handed), FOUR),
    "all_joined, unlike": (lambda handed: all_joined("sum", handed), [(1, 5), (2, 5)]),
    "all_joined, no rule": (lambda handed: all_joined(handed, FOUR), ["sum"]),
    "of_blocks": (lambda handed: of_blocks(1, handed), [(1, 1, 1, 4), (0, 0, 1, 1), (0, 1, 1, 3), (1, 0, 1, 2)]),
    "of_blocks, refused": (lambda handed: of_blocks(1, handed), [(1, 1, 1, 4), [0, 0, 1, 1]]),
    "of_rows": (of_rows, [[1, 2], [3, 4]]),
    "is_picture": (is_picture, [1, [1, 2, 3, 4]]),
    "is_change": (is_change, [1, [None, 2, 3, 4]]),
    "changed": (lambda handed: changed((1, 5), handed), [1, [None, 2, 3, 4]]),
    "led_over": (lambda handed: led_over(handed, (1, 5)), list(TABLE)),
    "seen_from": (lambda handed: seen_from((1, 5), 0, handed), ["most"]),
    "filled": (lambda handed: filled((1, 5), handed, 5), [0, 0, 1, 1]),
    "poured": (lambda handed: poured((1, 5), 0, 0, handed), [[5]]),
    "runs_in": (lambda handed: runs_in((1, 5), handed), [[0]]),
    "read_album": (read_album, ["a=0:5\n"]),
    "put": (lambda handed: ALBUM.put(handed, (1, 5)), ["a"]),
    "picture_of": (ALBUM.picture_of, [["a"]]),
    "join": (lambda handed: ALBUM.join("a", handed, "a", "b"), [["sum"]]),
}

# For each function with more than one refusal: what is handed in as it should be, and faults, each the place and the thing
# that is there in its stead, in the order in which they are raised.
REFUSALS = {
    "worth_at": (worth_at, (PICTURE, 0, 0), [(NoPicture, 0, None), (NoSpot, 1, 4), (NoSpot, 2, True)]),
    "quarter_of": (quarter_of, (PICTURE, 0), [(NoPicture, 0, (2, 10)), (NoSpot, 1, 4)]),
    "of_quarters": (lambda one, two, three, four: of_quarters([one, two, three, four]), ((1, 5), (1, 5), (1, 5), (1, 5)),
                    [(NoPicture, 0, 5), (NoPicture, 3, (1, True)), (Unlike, 1, (2, 5)), (Unlike, 3, (0, 5))]),
    "filled": (filled, (PICTURE, BOX, 5), [(NoPicture, 0, (4, 5)), (BadBox, 1, (0, 0, 5, 1)), (NoPicture, 2, 10)]),
    "put": (put, (PICTURE, 0, 0, 5), [(NoPicture, 0, []), (NoSpot, 1, -1), (NoSpot, 2, 4), (NoPicture, 3, None)]),
    "with_quarter": (with_quarter, (PICTURE, 0, (1, 5)),
                     [(NoPicture, 0, "2:5"), (NoPicture, 2, (1, None)), (NoSpot, 1, 4), (Unlike, 2, (2, 5))]),
    "cut_out": (cut_out, (PICTURE, 0, 1), [(NoPicture, 0, True), (NoSpot, 1, 4), (NoSpot, 2, 3)]),
    "by_way": (by_way, (PICTURE, 0), [(NoPicture, 0, 0), (NoSpot, 1, 8)]),
    "joined": (joined, ("sum", PICTURE, PICTURE),
               [(NoRule, 0, "most"), (NoPicture, 1, None), (NoPicture, 2, []), (Unlike, 1, (1, 5)), (Unlike, 2, (3, 5))]),
    "led_over": (led_over, (TABLE, PICTURE), [(NoRule, 0, list(TABLE)), (NoPicture, 1, None)]),
    "all_joined": (lambda rule, one, other: all_joined(rule, [one, PICTURE, other]), ("sum", PICTURE, PICTURE),
                   [(NoRule, 0, None), (NoPicture, 1, 5), (NoPicture, 2, 5), (Unlike, 1, (1, 5)), (Unlike, 2, (3, 5))]),
    "shaped": (shaped, (PICTURE, PICTURE, PICTURE),
               [(NoPicture, 0, None), (NoPicture, 1, 5), (NoPicture, 2, [2, 5]), (Unlike, 0, (1, 5)), (Unlike, 1, (0, 5)),
                (Unlike, 2, (3, 5))]),
    "sum_in": (sum_in, (PICTURE, BOX), [(NoPicture, 0, None), (BadBox, 1, None)]),
    "least_in": (least_in, (PICTURE, BOX), [(NoPicture, 0, None), (BadBox, 1, (0, 0, 0, 1))]),
    "greatest_in": (greatest_in, (PICTURE, BOX), [(NoPicture, 0, None), (BadBox, 1, (0, 0, True, 1))]),
    "count_in": (count_in, (PICTURE, BOX, 5), [(NoPicture, 0, None), (BadBox, 1, (0, 0, 9, 9))]),
    "is_plain": (is_plain, (PICTURE, BOX), [(NoPicture, 0, None), (BadBox, 1, (4, 0, 1, 1))]),
    "block_at": (block_at, (PICTURE, 0, 0), [(NoPicture, 0, None), (NoSpot, 1, 4), (NoSpot, 2, -1)]),
    "neighbours": (neighbours, (PICTURE, 0, 0), [(NoPicture, 0, None), (NoSpot, 1, 4), (NoSpot, 2, -1)]),
    "area_at": (area_at, (PICTURE, 0, 0), [(NoPicture, 0, None), (NoSpot, 1, 4), (NoSpot, 2, -1)]),
    "poured": (poured, (PICTURE, 0, 0, 5), [(NoPicture, 0, None), (NoSpot, 1, 4), (NoSpot, 2, -1), (NoPicture, 3, True)]),
    "changed": (changed, (PICTURE, (2, None)),
                [(NoPicture, 0, (2, None)), (NoChange, 1, (2, True)), (Unlike, 0, (1, 5)), (Unlike, 1, (3, None))]),
    "back_of": (back_of, (PICTURE, (2, None)),
                [(NoPicture, 0, (2, None)), (NoChange, 1, 5), (Unlike, 0, (1, 5)), (Unlike, 1, (3, None))]),
    "between": (between, (PICTURE, PICTURE),
                [(NoPicture, 0, (2, None)), (NoPicture, 1, None), (Unlike, 0, (1, 5)), (Unlike, 1, (3, 5))]),
    "worths_unlike": (worths_unlike, (PICTURE, PICTURE),
                      [(NoPicture, 0, (2, None)), (NoPicture, 1, None), (Unlike, 0, (1, 5)), (Unlike, 1, (3, 5))]),
    "behind": (behind, ((2, None), (2, 5)),
               [(NoChange, 0, None), (NoChange, 1, (2, 10)), (Unlike, 0, (1, 5)), (Unlike, 1, (3, None))]),
    "are_apart": (are_apart, ((2, None), (2, 5)),
                  [(NoChange, 0, None), (NoChange, 1, (2, 10)), (Unlike, 0, (1, 5)), (Unlike, 1, (3, None))]),
    "seen_from": (seen_from, (PICTURE, 0, "most"), [(NoRule, 2, "sum"), (NoPicture, 0, None)]),
    "picture": (SHELF.picture, (2, 11), [(NoNumber, 0, 4), (NoNumber, 0, 1), (NoNumber, 1, 12)]),
    "fill": (lambda box, worth: Painter(PICTURE).fill(box, worth), (BOX, 5), [(BadBox, 0, None), (NoPicture, 1, 10)]),
    "dot": (lambda x, y, worth: Painter(PICTURE).dot(x, y, worth), (0, 0, 5),
            [(NoSpot, 0, 4), (NoSpot, 1, 4), (NoPicture, 2, 10)]),
    "box_of": (box_of, (PICTURE, 5), [(NoPicture, 0, None), (NoPicture, 1, None)]),
    "runs_in": (runs_in, (PICTURE, 0), [(NoPicture, 0, None), (NoSpot, 1, None)]),
    "framed": (framed, (PICTURE, 5), [(NoPicture, 0, None), (NoPicture, 1, None)]),
    "put of an album": (lambda *taken: ALBUM.twin().put(*taken), ("a", PICTURE), [(NoPicture, 1, None), (NoName, 0, "")]),
    "join": (lambda *taken: ALBUM.twin().join(*taken), ("d", "sum", "a", "b"),
             [(NoRule, 1, "most"), (NoName, 0, "D"), (NoName, 2, "x"), (NoName, 3, ["a"]), (Unlike, 2, "small"),
              (Unlike, 3, "large")]),
    "move": (lambda *taken: ALBUM.twin().move(*taken), ("a", 1), [(NoName, 0, "x"), (NoSpot, 1, 8)]),
}


def spoil(told):
    """Changes a list that was told, and all lists in it."""
    for part in told:
        if isinstance(part, list):
            spoil(part)
    told.reverse()
    told.append("more")
    told.pop(0)


class TestLists(unittest.TestCase):
    def test_told_lists_are_new_ones_each_time(self):
        for name, call in TOLD_LISTS.items():
            with self.subTest(name=name):
                told = call()
                self.assertIsInstance(told, list)
                self.assertTrue(told)
                kept = copy.deepcopy(told)
                spoil(told)
                self.assertNotEqual(told, kept)
                self.assertEqual(call(), kept)
                told.clear()
                self.assertEqual(call(), kept)

    def test_lists_that_are_handed_in_are_as_they_were(self):
        for name, (call, handed) in HANDED_LISTS.items():
            with self.subTest(name=name):
                kept = copy.deepcopy(handed)
                try:
                    call(handed)
                except FourError:
                    pass
                self.assertEqual(repr(handed), repr(kept))


class TestRefusals(unittest.TestCase):
    def assert_raised(self, error, name, call, taken):
        with self.assertRaises(FourError, msg=(name, taken)) as caught:
            call(*taken)
        self.assertIs(type(caught.exception), error, (name, taken))

    def test_what_is_as_it_should_be_is_not_refused(self):
        for name, (call, taken, faults) in REFUSALS.items():
            call(*taken)

    def test_each_by_itself(self):
        for name, (call, taken, faults) in REFUSALS.items():
            for error, place, thing in faults:
                self.assert_raised(error, name, call, taken[:place] + (thing,) + taken[place + 1:])

    def test_several_that_are_due_at_once(self):
        met = 0
        for name, (call, taken, faults) in REFUSALS.items():
            for many in range(2, len(faults) + 1):
                for due in itertools.combinations(faults, many):
                    if len({place for error, place, thing in due}) == many:
                        spoilt = list(taken)
                        for error, place, thing in due:
                            spoilt[place] = thing
                        self.assert_raised(due[0][0], name, call, spoilt)
                        met += 1
        self.assertGreater(met, 100)


class TestAnyThing(unittest.TestCase):
    def test_what_takes_any_thing_refuses_it_by_the_refusal_that_is_told(self):
        for thing in NO_PICTURES + [listed(None, 10), listed("a", 10), ((((((((((1,),),),),),),),),),)]:
            self.assertIs(is_picture(thing), False)
            self.assertRaises(NoPicture, Painter, thing)
            self.assertRaises(NoBlocks, of_blocks, 0, [thing])
            self.assertRaises(NoRule, joined, thing, PICTURE, PICTURE)
            self.assertRaises(NoRule, led_over, thing, PICTURE)
            self.assertRaises(NoRule, seen_from, PICTURE, 0, thing)
            self.assertRaises(NoName, ALBUM.picture_of, thing if not isinstance(thing, str) else "none")
            if not isinstance(thing, str):
                self.assertRaises(NoText, read_album, thing)
        for thing in NO_CHANGES:
            self.assertIs(is_change(thing), False)
            self.assertRaises(NoChange, changed, PICTURE, thing)


class TestWhole(unittest.TestCase):
    """[0.2] where several modules meet."""

    def couples(self):
        return itertools.product(some_pictures(40), repeat=2)

    def test_the_same_to_look_at_by_whatever_is_told(self):
        shelf = Shelf()
        for one, other in self.couples():
            same = one[0] == other[0] and shown_rows(one) == shown_rows(other)
            self.assertIs(alike(one, other), same)
            self.assertIs(lean(one) == lean(other), same)
            self.assertIs(picture_text(lean(one)) == picture_text(lean(other)), same)
            self.assertIs(rows_text(one) == rows_text(other), same)
            self.assertIs(blocks(one) == blocks(other), same)
            if one[0] == other[0]:
                self.assertIs(worths_unlike(one, other) == 0, same)
                self.assertIs(between(one, other) == (one[0], None), same)
                self.assertIs(shelf.keep(one) == shelf.keep(other), same)

    def test_back_from_all_that_tells_a_picture(self):
        for picture in some_pictures(80):
            least = lean(picture)
            shelf = Shelf()
            album = Album()
            album.put("a", picture)
            self.assertEqual(read_picture(picture_text(picture)), picture)
            self.assertEqual(read_rows(rows_text(picture)), least)
            self.assertEqual(of_blocks(picture[0], blocks(picture)), least)
            self.assertEqual(shelf.picture(picture[0], shelf.keep(picture)), least)
            self.assertEqual(best_view(picture, fewest_parts(picture)), least)
            self.assertEqual(read_album(album_text(album)).picture_of("a"), least)
            self.assertEqual(changed((picture[0], 0), between((picture[0], 0), picture)), least)
            self.assertLessEqual(fewest_parts(picture), plain_parts(picture))

    def test_sums_over_areas_and_blocks(self):
        for picture in some_pictures(40):
            told = [worth * side * side for left, top, side, worth in blocks(picture)]
            self.assertEqual(sum(told), total(picture))
            self.assertEqual(sum(area_sizes(picture)), sum([side * side for left, top, side, worth in blocks(picture)]))

    def test_views_are_as_wrong_as_told(self):
        for picture in some_pictures(40):
            for most in (1, 4, 7):
                self.assertEqual(worths_unlike(picture, best_view(picture, most)), least_wrong(picture, most))
                self.assertLessEqual(plain_parts(best_view(picture, most)), most)
