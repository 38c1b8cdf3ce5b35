import itertools

from samples import (EACH_SIZE, NO_BOXES, NO_WORTHS, PictureTest, boxes_beyond, every_box, full_tree, painted,
                     some_pictures)

from fourfold.errors import BadBox, NoPicture
from fourfold.pictures import shown_rows, worth_at
from fourfold.sums import (count_in, counts, first_spot, greatest_in, is_plain, least_in, sum_in, sums_across,
                           sums_down, total)
from fourfold.turns import by_way

PARTED = (2, (0, (1, 1, 2, 1), 0, 9))

# Each of the functions that take a box, as one of a picture and a box.
IN_BOXES = {
    "sum_in": sum_in,
    "least_in": least_in,
    "greatest_in": greatest_in,
    "count_in": lambda picture, box: count_in(picture, box, 5),
    "count_in of a worth that is nowhere": lambda picture, box: count_in(picture, box, 0),
    "count_in of no worth": lambda picture, box: count_in(picture, box, 10),
    "count_in of a truth": lambda picture, box: count_in(picture, box, True),
    "is_plain": is_plain,
}


def worths_in(picture, box):
    left, top, width, height = box
    return [worth for row in painted(picture)[top:top + height] for worth in row[left:left + width]]


def halves(box):
    """All couples of boxes in which a box can be cut."""
    left, top, width, height = box
    for cut in range(1, width):
        yield (left, top, cut, height), (left + cut, top, width - cut, height)
    for cut in range(1, height):
        yield (left, top, width, cut), (left, top + cut, width, height - cut)


class TestBoxes(PictureTest):
    def test_named_boxes(self):
        box = (1, 1, 2, 2)
        self.assertEqual(sum_in(PARTED, box), 11)
        self.assertEqual(least_in(PARTED, box), 0)
        self.assertEqual(greatest_in(PARTED, box), 9)
        self.assertEqual([count_in(PARTED, box, worth) for worth in range(10)], [2, 0, 1, 0, 0, 0, 0, 0, 0, 1])
        self.assertIs(is_plain(PARTED, box), False)
        # Left and width are along the rows, top and height across them.
        self.assertEqual(sum_in(PARTED, (2, 1, 2, 1)), 3)
        self.assertEqual(sum_in(PARTED, (2, 1, 1, 2)), 11)

    def test_plain_boxes(self):
        self.assertIs(is_plain(PARTED, (2, 2, 2, 2)), True)
        self.assertIs(is_plain(PARTED, (0, 0, 2, 4)), True)
        self.assertIs(is_plain(PARTED, (2, 0, 2, 1)), True)
        self.assertIs(is_plain(PARTED, (2, 0, 2, 2)), False)
        self.assertIs(is_plain(PARTED, (1, 0, 2, 1)), False)
        # Boxes go over the edges of quarters.
        self.assertIs(is_plain((2, (0, (0, 1, 0, 1), 2, 2)), (1, 0, 2, 2)), True)

    def test_all_boxes(self):
        for picture in EACH_SIZE + [(2, ((1, 2, 3, 4), (5, 6, 7, 8), (9, 0, 1, 2), (3, 3, 3, 3)))]:
            for box in every_box(len(painted(picture))):
                worths = worths_in(picture, box)
                self.assertEqual(sum_in(picture, box), sum(worths))
                self.assertEqual(least_in(picture, box), sorted(worths)[0])
                self.assertEqual(greatest_in(picture, box), sorted(worths)[-1])
                self.assertIs(is_plain(picture, box), len(set(worths)) == 1)
                self.assertEqual([count_in(picture, box, worth) for worth in range(10)],
                                 [len([one for one in worths if one == worth]) for worth in range(10)])

    def test_boxes_of_one_spot(self):
        for picture in EACH_SIZE:
            for x, y in itertools.product(range(len(painted(picture))), repeat=2):
                worth = worth_at(picture, x, y)
                box = (x, y, 1, 1)
                self.assertEqual([sum_in(picture, box), least_in(picture, box), greatest_in(picture, box)], [worth] * 3)
                self.assertEqual(count_in(picture, box, worth), 1)
                self.assertIs(is_plain(picture, box), True)

    def test_boxes_that_have_all(self):
        for picture in some_pictures():
            worths = [worth for row in painted(picture) for worth in row]
            side = len(painted(picture))
            box = (0, 0, side, side)
            self.assertEqual(sum_in(picture, box), total(picture))
            self.assertEqual((least_in(picture, box), greatest_in(picture, box)), (min(worths), max(worths)))
            self.assertEqual(tuple(count_in(picture, box, worth) for worth in range(10)), counts(picture))
            self.assertIs(is_plain(picture, box), len(set(worths)) == 1)

    def test_a_box_cut_in_two(self):
        for picture in EACH_SIZE[:3] + [(2, ((1, 2, 3, 4), (5, 6, 7, 8), (9, 0, 1, 2), (3, 3, 3, 3)))]:
            for box in every_box(len(painted(picture))):
                for one, other in halves(box):
                    self.assertEqual(sum_in(picture, one) + sum_in(picture, other), sum_in(picture, box))
                    self.assertEqual(min(least_in(picture, one), least_in(picture, other)), least_in(picture, box))
                    self.assertEqual(max(greatest_in(picture, one), greatest_in(picture, other)),
                                     greatest_in(picture, box))
                    for worth in (0, 1, 9):
                        self.assertEqual(count_in(picture, one, worth) + count_in(picture, other, worth),
                                         count_in(picture, box, worth))

    def test_worths_that_are_nowhere(self):
        self.assertEqual(count_in(PARTED, (0, 0, 4, 4), 3), 0)
        self.assertEqual(count_in(PARTED, (0, 0, 2, 4), 9), 0)

    def test_no_spot_has_what_is_no_worth(self):
        picture = (1, (0, 1, 1, 0))
        for thing in NO_WORTHS:
            self.assertEqual(count_in(picture, (0, 0, 2, 2), thing), 0, thing)

    def test_boxes_partly_beyond_or_without_spots(self):
        for size, side in enumerate((1, 2, 4, 8)):
            for box in boxes_beyond(side):
                for name, call in IN_BOXES.items():
                    for tree in (5, full_tree(size, 5)):
                        with self.subTest(name=name, size=size, box=box):
                            self.assertRaises(BadBox, call, (size, tree), box)

    def test_what_is_no_box(self):
        for box in NO_BOXES:
            for name, call in IN_BOXES.items():
                with self.subTest(name=name, box=box):
                    self.assertRaises(BadBox, call, (1, 5), box)

    def test_the_picture_is_refused_ahead_of_the_box(self):
        for name, call in IN_BOXES.items():
            self.assertRaises(NoPicture, call, (1, 10), (0, 0, 3, 1))


class TestSums(PictureTest):
    def test_named_pictures(self):
        self.assertEqual(total(PARTED), 41)
        self.assertEqual(counts(PARTED), (8, 3, 1, 0, 0, 0, 0, 0, 0, 4))
        self.assertEqual(sums_across(PARTED), [2, 3, 18, 18])
        self.assertEqual(sums_down(PARTED), [0, 0, 21, 20])

    def test_many_pictures(self):
        for picture in some_pictures(120):
            rows = painted(picture)
            worths = [worth for row in rows for worth in row]
            self.assertEqual(total(picture), sum(worths))
            self.assertEqual(counts(picture), tuple(worths.count(worth) for worth in range(10)))
            self.assertEqual(sums_across(picture), [sum(row) for row in rows])
            self.assertEqual(sums_down(picture), [sum(column) for column in zip(*rows)])

    def test_sums_agree(self):
        for picture in some_pictures():
            side = len(painted(picture))
            self.assertEqual(sum(sums_across(picture)), total(picture))
            self.assertEqual(sum(sums_down(picture)), total(picture))
            self.assertEqual(sum(counts(picture)), side * side)
            self.assertEqual(sum(worth * many for worth, many in enumerate(counts(picture))), total(picture))
            self.assertEqual(sums_across(picture), [sum_in(picture, (0, y, side, 1)) for y in range(side)])
            self.assertEqual(sums_down(picture), [sum_in(picture, (x, 0, 1, side)) for x in range(side)])
            for way in range(8):
                self.assertEqual(counts(by_way(picture, way)), counts(picture))

    def test_plain_pictures(self):
        for size, side in enumerate((1, 2, 4, 8)):
            for worth in range(10):
                for tree in (worth, full_tree(size, worth)):
                    picture = (size, tree)
                    self.assertEqual(total(picture), worth * side * side)
                    self.assertEqual(sums_across(picture), [worth * side] * side)
                    self.assertEqual(sums_down(picture), [worth * side] * side)
                    many = [0] * 10
                    many[worth] = side * side
                    self.assertEqual(counts(picture), tuple(many))

    def test_kinds_of_what_is_told(self):
        self.assertIsInstance(counts(PARTED), tuple)
        for call in (sums_across, sums_down):
            told = call(PARTED)
            self.assertIsInstance(told, list)
            told.clear()
            self.assertEqual(len(call(PARTED)), 4)


class TestFirstSpot(PictureTest):
    def test_named_pictures(self):
        self.assertEqual([first_spot(PARTED, worth) for worth in range(10)],
                         [(0, 0), (2, 0), (2, 1), None, None, None, None, None, None, (2, 2)])

    def test_rows_come_ahead_of_quarters(self):
        # In the tree the 1 below left stands ahead of the one above right.
        self.assertEqual(first_spot((2, ((0, 0, 1, 0), (0, 1, 0, 0), 0, 0)), 1), (3, 0))
        self.assertEqual(first_spot((2, (0, (0, 0, 0, 1), (1, 0, 0, 0), 0)), 1), (3, 1))

    def test_many_pictures(self):
        for picture in some_pictures(120):
            for worth in range(10):
                spots = [(y, x) for y, row in enumerate(shown_rows(picture)) for x, one in enumerate(row) if one == worth]
                told = first_spot(picture, worth)
                if spots:
                    self.assertEqual(told, (min(spots)[1], min(spots)[0]))
                    self.assertIsInstance(told, tuple)
                else:
                    self.assertIsNone(told)

    def test_no_spot_has_what_is_no_worth(self):
        for thing in NO_WORTHS:
            self.assertIsNone(first_spot((1, (0, 1, 1, 0)), thing), thing)

    def test_the_picture_is_refused_whatever_the_worth(self):
        for thing in NO_WORTHS:
            self.assertRaises(NoPicture, first_spot, (1, 10), thing)
