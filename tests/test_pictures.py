import unittest

from samples import NO_PICTURES, NO_WORTHS, every_picture, every_rows, full_tree, melts, painted, some_pictures

from fourfold.errors import NoPicture, NoSpot
from fourfold.pictures import alike, is_lean, is_picture, lean, of_rows, shown_rows, worth_at
from fourfold.sizes import plain_parts

PARTED = (2, (0, (1, 1, 2, 1), 0, 9))
PARTED_ROWS = ((0, 0, 1, 1), (0, 0, 2, 1), (0, 0, 9, 9), (0, 0, 9, 9))


class TestIsPicture(unittest.TestCase):
    def test_pictures_of_each_size(self):
        for size in range(4):
            for worth in range(10):
                self.assertIs(is_picture((size, worth)), True)
                for depth in range(size + 1):
                    self.assertIs(is_picture((size, full_tree(depth, worth))), True)

    def test_trees_deeper_than_the_size(self):
        for size in range(4):
            for depth in range(size + 1, 11):
                thing = (size, 1)
                for _ in range(depth):
                    thing = (size, (0, 0, 0, thing[1]))
                self.assertIs(is_picture(thing), False, thing)

    def test_pictures_of_all_forms(self):
        for picture in some_pictures() + every_picture(1, 3):
            self.assertIs(is_picture(picture), True, picture)

    def test_what_is_none(self):
        for thing in NO_PICTURES:
            self.assertIs(is_picture(thing), False, thing)

    def test_worths_that_are_none_at_each_place(self):
        for worth in NO_WORTHS:
            if worth == (1, 2, 3, 4):
                continue
            for place in range(4):
                four = [0, 0, 0, 0]
                four[place] = worth
                for thing in ((1, tuple(four)), (3, (1, 2, tuple(four), 3)), (3, (1, (0, tuple(four), 0, 0), 2, 3))):
                    self.assertIs(is_picture(thing), False, thing)


class TestSpots(unittest.TestCase):
    def test_rows_of_a_parted_picture(self):
        self.assertEqual(shown_rows(PARTED), PARTED_ROWS)

    def test_quarters_stand_above_left_above_right_below_left_below_right(self):
        self.assertEqual(shown_rows((1, (1, 2, 3, 4))), ((1, 2), (3, 4)))

    def test_rows_of_plain_pictures(self):
        for size, side in enumerate((1, 2, 4, 8)):
            for tree in (5, full_tree(size, 5)):
                self.assertEqual(shown_rows((size, tree)), ((5,) * side,) * side)

    def test_rows_are_as_painted(self):
        for picture in some_pictures():
            self.assertEqual(shown_rows(picture), painted(picture))

    def test_rows_are_tuples(self):
        rows = shown_rows(PARTED)
        self.assertEqual([type(rows)] + [type(row) for row in rows], [tuple] * 5)

    def test_worths_at_all_spots(self):
        for picture in some_pictures():
            for y, row in enumerate(painted(picture)):
                for x, worth in enumerate(row):
                    self.assertEqual(worth_at(picture, x, y), worth)

    def test_x_is_from_the_left_and_y_from_above(self):
        self.assertEqual(worth_at(PARTED, 2, 1), 2)
        self.assertEqual(worth_at(PARTED, 1, 2), 0)

    def test_spots_beside(self):
        for size, side in enumerate((1, 2, 4, 8)):
            for tree in (5, full_tree(size, 5)):
                for beyond in (-1, side, side + 1, -side, 10 ** 30, -10 ** 30):
                    for x, y in ((beyond, 0), (0, beyond), (beyond, beyond), (side - 1, beyond), (beyond, side - 1)):
                        with self.subTest(size=size, x=x, y=y):
                            self.assertRaises(NoSpot, worth_at, (size, tree), x, y)

    def test_truths_are_no_places(self):
        self.assertRaises(NoSpot, worth_at, PARTED, True, 0)
        self.assertRaises(NoSpot, worth_at, PARTED, 0, False)


class TestRows(unittest.TestCase):
    def test_rows_of_each_size(self):
        self.assertEqual(of_rows(((7,),)), (0, 7))
        self.assertEqual(of_rows(((1, 2), (3, 4))), (1, (1, 2, 3, 4)))
        self.assertEqual(of_rows(PARTED_ROWS), PARTED)
        self.assertEqual(of_rows(((6,) * 8,) * 8), (3, 6))

    def test_rows_that_are_shown_give_the_least_form(self):
        for picture in some_pictures():
            self.assertEqual(of_rows(painted(picture)), lean(picture))

    def test_all_small_rows_are_shown_again(self):
        for size, worths in ((0, 10), (1, 4)):
            for rows in every_rows(size, worths):
                picture = of_rows(rows)
                self.assertTrue(is_picture(picture))
                self.assertFalse(melts(picture[1]))
                self.assertEqual(painted(picture), rows)

    def test_worths_that_are_none(self):
        for worth in NO_WORTHS:
            for rows in (((worth,),), ((0, 0), (worth, 0)), ((0, worth), (0, 0)), ((0,) * 8,) * 7 + ((0,) * 7 + (worth,),)):
                with self.subTest(rows=rows):
                    self.assertRaises(NoPicture, of_rows, rows)

    def test_another_number_of_rows(self):
        for side in (0, 3, 5, 6, 7, 9, 16):
            self.assertRaises(NoPicture, of_rows, ((0,) * side,) * side)

    def test_rows_of_another_length(self):
        for side in (1, 2, 4, 8):
            for length in (0, side - 1, side + 1, 2 * side):
                self.assertRaises(NoPicture, of_rows, ((0,) * length,) * side)
                self.assertRaises(NoPicture, of_rows, ((0,) * side,) * (side - 1) + ((0,) * length,))

    def test_lists_in_the_place_of_tuples(self):
        for rows in ([[1]], ([1],), [(1,)], [(1, 2), (3, 4)], ((1, 2), [3, 4]), ([1, 2], [3, 4])):
            self.assertRaises(NoPicture, of_rows, rows)

    def test_other_things(self):
        for thing in NO_PICTURES + [(0, 5), PARTED, "1", ("1",), ("12", "34"), ("12", (3, 4)), ((1, 2), None), (1, (2,))]:
            # No picture, but the rows of one.
            if thing == ((0, 5), (0, 5)):
                continue
            with self.subTest(thing=thing):
                self.assertRaises(NoPicture, of_rows, thing)


class TestLeastForm(unittest.TestCase):
    def test_lean_of_named_pictures(self):
        self.assertEqual(lean((1, (7, 7, 7, 7))), (1, 7))
        self.assertEqual(lean((2, ((3, 3, 3, 3), 3, 3, 3))), (2, 3))
        self.assertEqual(lean((3, full_tree(3, 0))), (3, 0))
        self.assertEqual(lean((2, ((3, 3, 3, 3), 3, 3, 4))), (2, (3, 3, 3, 4)))
        self.assertEqual(lean(PARTED), PARTED)

    def test_quarters_that_are_parted_alike_stay(self):
        picture = (2, ((1, 2, 3, 4),) * 4)
        self.assertEqual(lean(picture), picture)
        self.assertIs(is_lean(picture), True)

    def test_lean_shows_the_same_and_is_lean(self):
        for picture in some_pictures(200):
            told = lean(picture)
            self.assertTrue(is_picture(told))
            self.assertEqual(painted(told), painted(picture))
            self.assertFalse(melts(told[1]))
            self.assertIs(is_lean(told), True)
            self.assertEqual(lean(told), told)

    def test_is_lean_just_where_nothing_melts(self):
        for picture in some_pictures(200) + every_picture(1, 3):
            self.assertIs(is_lean(picture), not melts(picture[1]), picture)
        for size in (1, 2, 3):
            self.assertIs(is_lean((size, full_tree(size, 4))), False)
            self.assertIs(is_lean((size, full_tree(1, 4))), False)
            self.assertIs(is_lean((size, 4)), True)

    def test_showing_the_same_is_having_one_least_form(self):
        leans = {}
        fewest = {}
        for picture in every_picture(2, 2):
            rows = painted(picture)
            told = lean(picture)
            self.assertEqual(leans.setdefault(rows, told), told)
            fewest[rows] = min(fewest.get(rows, 16), plain_parts(picture))
        self.assertEqual(len(leans), 2 ** 16)
        self.assertEqual(len(set(leans.values())), 2 ** 16)
        for rows, told in leans.items():
            self.assertEqual(plain_parts(told), fewest[rows])

    def test_alike_is_showing_the_same(self):
        pictures = every_picture(1, 2) + some_pictures(40)
        for one in pictures:
            for other in pictures:
                self.assertIs(alike(one, other), painted(one) == painted(other))

    def test_alike_of_one_picture_in_two_forms(self):
        self.assertIs(alike((3, full_tree(3, 2)), (3, 2)), True)
        self.assertIs(alike((3, 2), (3, (2, 2, 2, (2, 2, 2, 3)))), False)

    def test_unlike_sizes_are_not_alike(self):
        for one in range(4):
            for other in range(4):
                self.assertIs(alike((one, 5), (other, 5)), one == other)
