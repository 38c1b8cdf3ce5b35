import copy
import importlib
import inspect
import unittest

from samples import NO_PICTURES, some_changes, some_pictures

from fourfold.albums import Album
from fourfold.areas import area_at, area_sizes, areas, border, how_many_areas, poured
from fourfold.blocks import block_at, blocks, neighbours
from fourfold.changes import (are_apart, back_of, behind, between, changed, is_change, lean_change, many_set,
                              squares_set, worths_unlike)
from fourfold.edits import cut_out, filled, put, with_quarter
from fourfold.errors import NoPicture
from fourfold.measures import box_of, framed, like_rows, rolled, runs_in, worths_in
from fourfold.painters import Painter
from fourfold.pictures import alike, is_lean, is_picture, lean, shown_rows, worth_at
from fourfold.rules import all_joined, joined, led_over, shaped
from fourfold.shelves import Shelf
from fourfold.sizes import deep, fewest_parts, grown, of_quarters, plain_parts, quarter_of
from fourfold.sums import (count_in, counts, first_spot, greatest_in, is_plain, least_in, sum_in, sums_across,
                           sums_down, total)
from fourfold.texts import picture_text, rows_text
from fourfold.turns import all_ways, are_kin, by_way, flipped, least_way, mirrored, swapped, turned, ways_to
from fourfold.views import best_view, least_wrong, seen_from

# How many arguments each function takes, as the interface tells it.
FUNCTIONS = {
    "pictures": {"is_picture": 1, "is_lean": 1, "alike": 2, "lean": 1, "shown_rows": 1, "of_rows": 1, "worth_at": 3},
    "sizes": {"plain_parts": 1, "fewest_parts": 1, "deep": 1, "plain": 2, "how_many": 2, "how_many_deep": 3,
              "quarter_of": 2, "of_quarters": 1, "grown": 1},
    "edits": {"filled": 3, "put": 4, "with_quarter": 3, "cut_out": 3},
    "turns": {"turned": 1, "mirrored": 1, "flipped": 1, "swapped": 1, "by_way": 2, "all_ways": 1, "spot_behind": 4,
              "behind_way": 2, "ways_to": 2, "least_way": 1, "how_many_kinds": 2, "are_kin": 2},
    "rules": {"joined": 3, "led_over": 2, "all_joined": 2, "shaped": 3},
    "sums": {"sum_in": 2, "least_in": 2, "greatest_in": 2, "count_in": 3, "total": 1, "counts": 1, "sums_across": 1,
             "sums_down": 1, "first_spot": 2, "is_plain": 2},
    "blocks": {"blocks": 1, "of_blocks": 2, "block_at": 3, "neighbours": 3},
    "areas": {"area_at": 3, "areas": 1, "area_sizes": 1, "how_many_areas": 1, "border": 1, "poured": 4},
    "changes": {"is_change": 1, "are_apart": 2, "lean_change": 1, "changed": 2, "between": 2, "behind": 2, "back_of": 2,
                "squares_set": 1, "many_set": 1, "worths_unlike": 2},
    "views": {"seen_from": 3, "best_view": 2, "least_wrong": 2},
    "texts": {"picture_text": 1, "read_picture": 1, "rows_text": 1, "read_rows": 1},
    "measures": {"worths_in": 1, "box_of": 2, "runs_in": 2, "like_rows": 1, "rolled": 3, "framed": 2},
    "albums": {"album_text": 1, "read_album": 1},
}

# The same of classes, for what makes one and for its methods.
CLASSES = {
    "shelves": {"Shelf": {"__init__": 0, "keep": 1, "many": 0, "parts": 1, "tree": 1, "picture": 2, "used_by": 1}},
    "painters": {"Painter": {"__init__": 1, "shown": 0, "fill": 2, "dot": 3, "turn": 1, "undo": 0, "redo": 0, "many": 0}},
    "albums": {"Album": {"__init__": 0, "put": 2, "picture_of": 1, "take": 1, "join": 4, "move": 2, "names": 0, "same_as": 1,
                         "back": 0, "forth": 0, "marks": 0, "twin": 0}},
}

GOOD = (1, (1, 2, 3, 4))
TABLE = (9, 8, 7, 6, 5, 4, 3, 2, 1, 0)

# Every place where a picture is handed in, the rest being as it should be.
TAKES_A_PICTURE = {
    "is_lean": is_lean,
    "lean": lean,
    "alike, one": lambda thing: alike(thing, GOOD),
    "alike, other": lambda thing: alike(GOOD, thing),
    "shown_rows": shown_rows,
    "worth_at": lambda thing: worth_at(thing, 0, 0),
    "plain_parts": plain_parts,
    "fewest_parts": fewest_parts,
    "deep": deep,
    "quarter_of": lambda thing: quarter_of(thing, 0),
    "of_quarters, first": lambda thing: of_quarters([thing, GOOD, GOOD, GOOD]),
    "of_quarters, last": lambda thing: of_quarters([GOOD, GOOD, GOOD, thing]),
    "grown": grown,
    "filled": lambda thing: filled(thing, (0, 0, 1, 1), 1),
    "put": lambda thing: put(thing, 0, 0, 1),
    "with_quarter, picture": lambda thing: with_quarter(thing, 0, (0, 1)),
    "with_quarter, other": lambda thing: with_quarter(GOOD, 0, thing),
    "cut_out": lambda thing: cut_out(thing, 0, 0),
    "turned": turned,
    "mirrored": mirrored,
    "flipped": flipped,
    "swapped": swapped,
    "by_way": lambda thing: by_way(thing, 0),
    "by_way, mirrored": lambda thing: by_way(thing, 5),
    "all_ways": all_ways,
    "ways_to, one": lambda thing: ways_to(thing, GOOD),
    "ways_to, other": lambda thing: ways_to(GOOD, thing),
    "are_kin, one": lambda thing: are_kin(thing, GOOD),
    "are_kin, other": lambda thing: are_kin(GOOD, thing),
    "least_way": least_way,
    "joined, one": lambda thing: joined("last", thing, GOOD),
    "joined, other": lambda thing: joined("first", GOOD, thing),
    "led_over": lambda thing: led_over(TABLE, thing),
    "all_joined, alone": lambda thing: all_joined("sum", [thing]),
    "all_joined, first": lambda thing: all_joined("last", [thing, GOOD]),
    "all_joined, last": lambda thing: all_joined("first", [GOOD, GOOD, thing]),
    "shaped, picture": lambda thing: shaped(thing, (1, 0), GOOD),
    "shaped, mask": lambda thing: shaped(GOOD, thing, GOOD),
    "shaped, other": lambda thing: shaped(GOOD, (1, 1), thing),
    "sum_in": lambda thing: sum_in(thing, (0, 0, 1, 1)),
    "least_in": lambda thing: least_in(thing, (0, 0, 1, 1)),
    "greatest_in": lambda thing: greatest_in(thing, (0, 0, 1, 1)),
    "count_in": lambda thing: count_in(thing, (0, 0, 1, 1), 1),
    "is_plain": lambda thing: is_plain(thing, (0, 0, 1, 1)),
    "total": total,
    "counts": counts,
    "sums_across": sums_across,
    "sums_down": sums_down,
    "first_spot": lambda thing: first_spot(thing, 1),
    "blocks": blocks,
    "block_at": lambda thing: block_at(thing, 0, 0),
    "neighbours": lambda thing: neighbours(thing, 0, 0),
    "area_at": lambda thing: area_at(thing, 0, 0),
    "areas": areas,
    "area_sizes": area_sizes,
    "how_many_areas": how_many_areas,
    "border": border,
    "poured": lambda thing: poured(thing, 0, 0, 5),
    "changed": lambda thing: changed(thing, (1, None)),
    "between, one": lambda thing: between(thing, GOOD),
    "between, other": lambda thing: between(GOOD, thing),
    "back_of": lambda thing: back_of(thing, (1, 5)),
    "worths_unlike, one": lambda thing: worths_unlike(thing, GOOD),
    "worths_unlike, other": lambda thing: worths_unlike(GOOD, thing),
    "keep": lambda thing: Shelf().keep(thing),
    "seen_from": lambda thing: seen_from(thing, 0, "most"),
    "best_view": lambda thing: best_view(thing, 4),
    "least_wrong": lambda thing: least_wrong(thing, 4),
    "Painter": Painter,
    "picture_text": picture_text,
    "rows_text": rows_text,
    "worths_in": worths_in,
    "box_of": lambda thing: box_of(thing, 5),
    "runs_in": lambda thing: runs_in(thing, 0),
    "like_rows": like_rows,
    "rolled": lambda thing: rolled(thing, 1, 1),
    "framed": lambda thing: framed(thing, 5),
    "put of an album": lambda thing: Album().put("a", thing),
}

# Every place where a change is handed in.
TAKES_A_CHANGE = {
    "is_change": is_change,
    "lean_change": lean_change,
    "changed": lambda thing: changed(GOOD, thing),
    "behind, one": lambda thing: behind(thing, (1, None)),
    "behind, other": lambda thing: behind((1, 5), thing),
    "back_of": lambda thing: back_of(GOOD, thing),
    "are_apart, one": lambda thing: are_apart(thing, (1, None)),
    "are_apart, other": lambda thing: are_apart((1, 5), thing),
    "squares_set": squares_set,
    "many_set": many_set,
}

# The same places, where anything else that is due would be raised too.
TAKES_A_PICTURE_FIRST = {
    "worth_at": lambda thing: worth_at(thing, -1, 99),
    "quarter_of": lambda thing: quarter_of(thing, 4),
    "of_quarters, unlike ones": lambda thing: of_quarters([(0, 1), (1, 2), (3, 4), thing]),
    "of_quarters, of size 3": lambda thing: of_quarters([(3, 1), (3, 1), thing, (3, 1)]),
    "filled": lambda thing: filled(thing, (9, 9, 0, 0), 10),
    "put": lambda thing: put(thing, 99, -1, 10),
    "with_quarter, picture": lambda thing: with_quarter(thing, 4, (3, 0)),
    "with_quarter, other": lambda thing: with_quarter(GOOD, 4, thing),
    "cut_out": lambda thing: cut_out(thing, 4, 99),
    "by_way": lambda thing: by_way(thing, 8),
    "joined, one": lambda thing: joined("sum", thing, None),
    "shaped, other": lambda thing: shaped((0, 1), (3, 0), thing),
    "all_joined": lambda thing: all_joined("sum", [(0, 1), (3, 1), thing]),
    "sum_in": lambda thing: sum_in(thing, (9, 9, 0, 0)),
    "least_in": lambda thing: least_in(thing, (9, 9, 0, 0)),
    "greatest_in": lambda thing: greatest_in(thing, (9, 9, 0, 0)),
    "count_in": lambda thing: count_in(thing, (9, 9, 0, 0), 10),
    "is_plain": lambda thing: is_plain(thing, (9, 9, 0, 0)),
    "first_spot": lambda thing: first_spot(thing, True),
    "block_at": lambda thing: block_at(thing, -1, 99),
    "neighbours": lambda thing: neighbours(thing, 99, -1),
    "area_at": lambda thing: area_at(thing, -1, 99),
    "poured": lambda thing: poured(thing, -1, 99, 10),
    "changed": lambda thing: changed(thing, True),
    "back_of": lambda thing: back_of(thing, (1, True)),
    "box_of": lambda thing: box_of(thing, 10),
    "runs_in": lambda thing: runs_in(thing, -1),
    "framed": lambda thing: framed(thing, 10),
    "put of an album": lambda thing: Album().put("A", thing),
}


class TestInterface(unittest.TestCase):
    def test_all_names_take_what_is_told(self):
        for module, functions in FUNCTIONS.items():
            held = importlib.import_module("fourfold." + module)
            for name, many in functions.items():
                with self.subTest(name=name):
                    parameters = inspect.signature(getattr(held, name)).parameters
                    self.assertEqual(len(parameters), many)

    def test_all_classes_have_what_is_told(self):
        for module, classes in CLASSES.items():
            held = importlib.import_module("fourfold." + module)
            for class_name, methods in classes.items():
                for name, many in methods.items():
                    with self.subTest(class_name=class_name, name=name):
                        parameters = inspect.signature(getattr(getattr(held, class_name), name)).parameters
                        self.assertEqual(len(parameters), 1 + many)

    def test_what_is_no_picture_is_refused(self):
        for places in (TAKES_A_PICTURE, TAKES_A_PICTURE_FIRST):
            for name, call in places.items():
                for thing in NO_PICTURES:
                    with self.subTest(name=name, thing=thing):
                        self.assertRaises(NoPicture, call, thing)

    def test_what_is_handed_in_is_not_changed(self):
        for name, call in list(TAKES_A_PICTURE.items()) + list(TAKES_A_CHANGE.items()) + [("is_picture", is_picture)]:
            for thing in NO_PICTURES + some_pictures() + some_changes(12):
                kept = copy.deepcopy(thing)
                try:
                    call(thing)
                except ValueError:
                    pass
                self.assertEqual(repr(thing), repr(kept), name)

    def test_lists_are_not_changed(self):
        four = [(1, (1, 1, 1, 1)), GOOD, (1, 5), GOOD]
        kept = copy.deepcopy(four)
        of_quarters(four)
        self.assertEqual(four, kept)
