import itertools
import unittest

from samples import every_rows, full_tree, melts, painted, some_pictures

from fourfold.errors import NoPicture, NoSpot, Unlike
from fourfold.pictures import is_lean, is_picture, lean, of_rows
from fourfold.sizes import (deep, fewest_parts, grown, how_many, how_many_deep, of_quarters, plain, plain_parts,
                            quarter_of)


class TestParts(unittest.TestCase):
    def test_named_pictures(self):
        for picture, told in [
            ((0, 4), (1, 1, 0)),
            ((3, 4), (1, 1, 0)),
            ((1, (1, 2, 3, 4)), (4, 4, 1)),
            ((1, (7, 7, 7, 7)), (4, 1, 0)),
            ((2, (0, (1, 1, 2, 1), 0, 9)), (7, 7, 2)),
            ((2, ((3, 3, 3, 3), 3, 3, 4)), (7, 4, 1)),
            ((2, ((1, 2, 3, 4),) * 4), (16, 16, 2)),
            ((3, full_tree(3, 8)), (64, 1, 0)),
            ((3, (0, 0, 0, (0, 0, 0, (0, 0, 0, 1)))), (10, 10, 3)),
            ((3, (0, 0, (1, 2, 1, 2), (0, 0, 0, (5, 5, 5, 5)))), (13, 10, 2)),
        ]:
            with self.subTest(picture=picture):
                self.assertEqual((plain_parts(picture), fewest_parts(picture), deep(picture)), told)

    def test_fewest_and_deep_are_of_the_least_form(self):
        for picture in some_pictures(100):
            told = lean(picture)
            self.assertEqual(fewest_parts(picture), plain_parts(told))
            self.assertEqual(deep(picture), deep(told))
            self.assertLessEqual(fewest_parts(picture), plain_parts(picture))
            self.assertEqual(fewest_parts(picture) == plain_parts(picture), is_lean(picture))


class TestHowMany(unittest.TestCase):
    def test_plain(self):
        for size, side in enumerate((1, 2, 4, 8)):
            for worth in range(10):
                self.assertEqual(plain(size, worth), (size, worth))
                self.assertEqual(painted(plain(size, worth)), ((worth,) * side,) * side)

    def test_plain_refuses_nothing(self):
        self.assertEqual(plain(4, 10), (4, 10))

    def test_counted_by_going_through_all(self):
        for size, worths in ((0, 1), (0, 2), (0, 10), (1, 1), (1, 2), (1, 5), (2, 1), (2, 2)):
            deeps = [deep(of_rows(rows)) for rows in every_rows(size, worths)]
            self.assertEqual(how_many(size, worths), len(deeps))
            for most in range(5):
                with self.subTest(size=size, worths=worths, most=most):
                    many = len([one for one in deeps if one <= most])
                    self.assertEqual(how_many_deep(size, worths, most), many)

    def test_great_numbers(self):
        self.assertEqual(how_many(3, 10), 10 ** 64)
        self.assertEqual(how_many(3, 2), 2 ** 64)
        self.assertEqual(how_many(2, 3), 3 ** 16)
        self.assertEqual([how_many_deep(3, 10, most) for most in range(5)],
                         [10, 10 ** 4, 10 ** 16, 10 ** 64, 10 ** 64])

    def test_of_one_worth_there_is_one(self):
        for size in range(4):
            self.assertEqual(how_many(size, 1), 1)
            self.assertEqual(how_many_deep(size, 1, 0), 1)

    def test_somewhat_beyond_nothing_is_refused(self):
        self.assertEqual(how_many(1, 0), 0)
        self.assertEqual(how_many(1, 11), 11 ** 4)
        self.assertEqual(how_many_deep(2, 3, -1), 0)
        self.assertEqual(how_many_deep(2, 3, 9), 3 ** 16)


class TestQuarters(unittest.TestCase):
    def test_quarters_of_a_parted_picture(self):
        picture = (2, (0, (1, 1, 2, 1), (4, 4, 4, 4), 9))
        self.assertEqual([quarter_of(picture, number) for number in range(4)],
                         [(1, 0), (1, (1, 1, 2, 1)), (1, 4), (1, 9)])

    def test_quarters_of_a_plain_picture(self):
        for size in (1, 2, 3):
            for number in range(4):
                self.assertEqual(quarter_of((size, 5), number), (size - 1, 5))

    def test_quarters_show_a_quarter(self):
        for picture in some_pictures():
            if picture[0] == 0:
                continue
            rows = painted(picture)
            half = len(rows) // 2
            for number, (left, top) in enumerate(((0, 0), (half, 0), (0, half), (half, half))):
                told = quarter_of(picture, number)
                self.assertTrue(is_picture(told))
                self.assertFalse(melts(told[1]))
                self.assertEqual(painted(told), tuple(row[left:left + half] for row in rows[top:top + half]))

    def test_numbers_that_are_none(self):
        for size in range(4):
            for number in (-1, 4, 5, -4, 10 ** 30, True, False):
                for tree in (5, full_tree(size, 5)):
                    self.assertRaises(NoSpot, quarter_of, (size, tree), number)

    def test_size_0_has_no_quarters(self):
        for number in range(4):
            self.assertRaises(NoSpot, quarter_of, (0, 5), number)

    def test_of_quarters_of_named_pictures(self):
        self.assertEqual(of_quarters([(0, 1), (0, 2), (0, 3), (0, 4)]), (1, (1, 2, 3, 4)))
        self.assertEqual(of_quarters([(2, 5)] * 4), (3, 5))
        self.assertEqual(of_quarters([(1, (5, 5, 5, 5)), (1, 5), (1, 5), (1, 6)]), (2, (5, 5, 5, 6)))

    def test_quarters_put_together_again(self):
        for picture in some_pictures():
            if picture[0] > 0:
                self.assertEqual(of_quarters([quarter_of(picture, number) for number in range(4)]), lean(picture))

    def test_of_quarters_that_are_not_lean(self):
        for picture in some_pictures():
            if picture[0] > 0 and isinstance(picture[1], tuple):
                four = [(picture[0] - 1, part) for part in picture[1]]
                self.assertEqual(of_quarters(four), lean(picture))

    def test_quarters_of_unlike_sizes(self):
        for sizes in itertools.product(range(4), repeat=4):
            four = [(size, 5) for size in sizes]
            if len(set(sizes)) > 1 or sizes[0] == 3:
                self.assertRaises(Unlike, of_quarters, four)
            else:
                self.assertEqual(of_quarters(four), (sizes[0] + 1, 5))

    def test_of_quarters_asks_for_pictures_ahead_of_sizes(self):
        for place in range(4):
            four = [(0, 1), (1, 2), (3, 3), (3, 4)]
            four[place] = (0, 10)
            self.assertRaises(NoPicture, of_quarters, four)

    def test_not_four(self):
        for four in ([], [(0, 1)] * 3, [(0, 1)] * 5):
            self.assertRaises(NoPicture, of_quarters, four)


class TestGrown(unittest.TestCase):
    def test_each_spot_is_four(self):
        for picture in some_pictures():
            if picture[0] == 3:
                continue
            rows = []
            for row in painted(picture):
                wide = tuple(worth for worth in row for _ in range(2))
                rows.extend([wide, wide])
            told = grown(picture)
            self.assertTrue(is_picture(told))
            self.assertEqual(told[0], picture[0] + 1)
            self.assertEqual(painted(told), tuple(rows))
            self.assertFalse(melts(told[1]))

    def test_size_3_does_not_grow(self):
        for tree in (5, (1, 2, 3, 4), full_tree(3, 5)):
            self.assertRaises(Unlike, grown, (3, tree))
