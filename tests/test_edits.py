import itertools

from samples import (EACH_SIZE, NO_BOXES, NO_WORTHS, PictureTest, boxes_beyond, every_box, full_tree, melts, painted,
                     some_pictures)

from fourfold.edits import cut_out, filled, put, with_quarter
from fourfold.errors import BadBox, NoPicture, NoSpot, Unlike
from fourfold.pictures import is_picture, lean, worth_at
from fourfold.sizes import of_quarters, quarter_of

NO_NUMBERS = [-1, 4, 5, -4, 10 ** 30, -10 ** 30, True, False]


def rows_with(rows, box, worth):
    left, top, width, height = box
    inside = set(itertools.product(range(left, left + width), range(top, top + height)))
    return tuple(tuple(worth if (x, y) in inside else old for x, old in enumerate(row)) for y, row in enumerate(rows))


class TestFilled(PictureTest):
    def test_named_boxes(self):
        self.assertEqual(filled((2, 0), (1, 1, 2, 2), 5),
                         (2, ((0, 0, 0, 5), (0, 0, 5, 0), (0, 5, 0, 0), (5, 0, 0, 0))))
        self.assertEqual(filled((2, 0), (2, 0, 2, 2), 5), (2, (0, 5, 0, 0)))
        self.assertEqual(filled((1, (1, 2, 3, 4)), (0, 0, 2, 1), 9), (1, (9, 9, 3, 4)))
        self.assertEqual(filled((1, (1, 2, 3, 4)), (0, 0, 1, 2), 9), (1, (9, 2, 9, 4)))

    def test_all_boxes(self):
        for picture in EACH_SIZE:
            rows = painted(picture)
            for box in every_box(len(rows)):
                for worth in (0, 9):
                    self.assert_shows(filled(picture, box, worth), rows_with(rows, box, worth))

    def test_a_box_that_has_all(self):
        for picture in some_pictures():
            side = len(painted(picture))
            self.assertEqual(filled(picture, (0, 0, side, side), 4), (picture[0], 4))

    def test_what_the_spots_had_already(self):
        self.assertEqual(filled((2, full_tree(2, 3)), (1, 1, 2, 3), 3), (2, 3))

    def test_boxes_partly_beyond_or_without_spots(self):
        for size, side in enumerate((1, 2, 4, 8)):
            for box in boxes_beyond(side):
                for tree in (5, full_tree(size, 5)):
                    with self.subTest(size=size, box=box):
                        self.assertRaises(BadBox, filled, (size, tree), box, 1)

    def test_what_is_no_box(self):
        for box in NO_BOXES:
            self.assertRaises(BadBox, filled, (1, 5), box, 1)

    def test_worths_that_are_none(self):
        for worth in NO_WORTHS:
            self.assertRaises(NoPicture, filled, (1, 5), (0, 0, 1, 1), worth)

    def test_the_box_is_refused_ahead_of_the_worth(self):
        for worth in NO_WORTHS:
            self.assertRaises(BadBox, filled, (1, 5), (0, 0, 3, 1), worth)

    def test_the_picture_is_refused_ahead_of_the_box(self):
        self.assertRaises(NoPicture, filled, (1, 10), (0, 0, 3, 1), 1)


class TestPut(PictureTest):
    def test_all_spots(self):
        for picture in EACH_SIZE:
            rows = painted(picture)
            for x, y in itertools.product(range(len(rows)), repeat=2):
                for worth in range(10):
                    told = put(picture, x, y, worth)
                    self.assert_shows(told, rows_with(rows, (x, y, 1, 1), worth))
                    self.assertEqual(worth_at(told, x, y), worth)

    def test_the_last_that_was_put_is_there(self):
        for picture in EACH_SIZE:
            side = len(painted(picture))
            for x, y in itertools.product(range(side), repeat=2):
                self.assertEqual(put(put(picture, x, y, 7), x, y, 8), put(picture, x, y, 8))
                self.assertEqual(put(put(picture, x, y, 7), x, y, worth_at(picture, x, y)), lean(picture))

    def test_spots_put_one_by_one_melt(self):
        picture = (2, (0, (1, 1, 2, 1), 0, 9))
        for x, y in itertools.product(range(4), repeat=2):
            picture = put(picture, x, y, 6)
        self.assertEqual(picture, (2, 6))

    def test_spots_beside(self):
        for size, side in enumerate((1, 2, 4, 8)):
            for beyond in (-1, side, side + 1, 10 ** 30, True, False):
                for x, y in ((beyond, 0), (0, beyond), (beyond, beyond)):
                    with self.subTest(size=size, x=x, y=y):
                        self.assertRaises(NoSpot, put, (size, 5), x, y, 1)

    def test_worths_that_are_none(self):
        for worth in NO_WORTHS:
            self.assertRaises(NoPicture, put, (1, 5), 0, 0, worth)

    def test_the_spot_is_refused_ahead_of_the_worth(self):
        for worth in NO_WORTHS:
            self.assertRaises(NoSpot, put, (1, 5), 0, 2, worth)
            self.assertRaises(NoSpot, put, (1, 5), -1, 0, worth)

    def test_the_picture_is_refused_ahead_of_the_spot(self):
        self.assertRaises(NoPicture, put, (0, True), 0, 2, 1)


class TestWithQuarter(PictureTest):
    def test_named_pictures(self):
        self.assertEqual(with_quarter((1, 5), 2, (0, 6)), (1, (5, 5, 6, 5)))
        self.assertEqual(with_quarter((2, (1, 2, 3, 4)), 0, (1, (5, 6, 7, 8))), (2, ((5, 6, 7, 8), 2, 3, 4)))
        self.assertEqual(with_quarter((2, (1, 1, 1, (1, 2, 3, 4))), 3, (1, (1, 1, 1, 1))), (2, 1))

    def test_one_quarter_is_other_and_all_else_stays(self):
        pictures = some_pictures()
        for picture in pictures:
            for other in pictures:
                if other[0] != picture[0] - 1:
                    continue
                for number in range(4):
                    four = [quarter_of(picture, place) for place in range(4)]
                    four[number] = lean(other)
                    told = with_quarter(picture, number, other)
                    self.assertEqual([quarter_of(told, place) for place in range(4)], four)
                    self.assertEqual(told, of_quarters(four))

    def test_numbers_that_are_none(self):
        for number in NO_NUMBERS:
            for size in (1, 2, 3):
                self.assertRaises(NoSpot, with_quarter, (size, 5), number, (size - 1, 6))

    def test_size_0_has_no_quarters(self):
        for number in range(4):
            for size in range(4):
                self.assertRaises(NoSpot, with_quarter, (0, 5), number, (size, 6))

    def test_sizes_that_are_not_one_less(self):
        for size, other in itertools.product((1, 2, 3), range(4)):
            for number in range(4):
                if other == size - 1:
                    self.assertTrue(is_picture(with_quarter((size, 5), number, (other, 6))))
                else:
                    self.assertRaises(Unlike, with_quarter, (size, 5), number, (other, 6))

    def test_no_picture_is_refused_ahead_of_the_number_and_the_size(self):
        self.assertRaises(NoPicture, with_quarter, (1, 10), 4, (3, 6))
        self.assertRaises(NoPicture, with_quarter, (1, 5), 4, (3, 10))
        self.assertRaises(NoPicture, with_quarter, (0, 5), 0, (3, 10))

    def test_the_number_is_refused_ahead_of_the_size(self):
        for number in NO_NUMBERS:
            self.assertRaises(NoSpot, with_quarter, (2, 5), number, (2, 6))


class TestCutOut(PictureTest):
    def test_named_pictures(self):
        picture = (3, (0, 1, 2, (3, 4, 5, (6, 7, 8, 9))))
        self.assertEqual([cut_out(picture, 3, deep) for deep in range(4)],
                         [picture, (2, (3, 4, 5, (6, 7, 8, 9))), (1, (6, 7, 8, 9)), (0, 9)])
        self.assertEqual([cut_out(picture, 1, deep) for deep in range(4)], [picture, (2, 1), (1, 1), (0, 1)])

    def test_the_same_quarter_so_often(self):
        for picture in some_pictures():
            for number in range(4):
                part = lean(picture)
                self.assertEqual(cut_out(picture, number, 0), part)
                for deep in range(1, picture[0] + 1):
                    part = quarter_of(part, number)
                    told = cut_out(picture, number, deep)
                    self.assertEqual(told, part)
                    self.assertFalse(melts(told[1]))

    def test_numbers_that_are_none_with_0_too(self):
        for size in range(4):
            for number in NO_NUMBERS:
                for deep in range(size + 2):
                    self.assertRaises(NoSpot, cut_out, (size, 5), number, deep)

    def test_not_so_deep(self):
        for size in range(4):
            for deep in (size + 1, size + 2, 10 ** 30, -1, -10 ** 30):
                for number in range(4):
                    self.assertRaises(NoSpot, cut_out, (size, 5), number, deep)
                    self.assertRaises(NoSpot, cut_out, (size, full_tree(size, 5)), number, deep)
