import itertools

from samples import EACH_SIZE, NO_PICTURES, NO_WORTHS, PictureTest, every_picture, full_tree, painted, some_pictures

from fourfold.errors import NoPicture, NoSpot
from fourfold.measures import box_of, framed, like_rows, rolled, runs_in, worths_in
from fourfold.pictures import lean, of_rows

PICTURE = (2, (0, (1, 1, 2, 1), 0, 9))

BY_AMOUNTS = (0, 1, -1, 2, 3, -3, 4, 5, 7, 8, 9, -8, -9, 16, 17, 100, -100, 10 ** 30 + 1, -10 ** 30 - 1)


def pictures():
    return EACH_SIZE + [PICTURE] + some_pictures(60)


def rolled_rows(rows, right, down):
    """Each spot brought to where it comes."""
    side = len(rows)
    told = [[None] * side for _ in range(side)]
    for x, y in itertools.product(range(side), repeat=2):
        told[(y + down) % side][(x + right) % side] = rows[y][x]
    return tuple(map(tuple, told))


class TestWorthsIn(PictureTest):
    def test_named(self):
        self.assertEqual(worths_in(PICTURE), [0, 1, 2, 9])
        self.assertEqual(worths_in((0, 7)), [7])
        self.assertEqual(worths_in((3, full_tree(3, 0))), [0])
        self.assertEqual(worths_in((1, (9, 3, 9, 0))), [0, 3, 9])
        everything = ((9, 8, 7, 6), (5, 4, 3, 2), (1, 0, 0, 0), (9, 9, 9, 9))
        self.assertEqual(worths_in((2, everything)), list(range(10)))

    def test_all(self):
        for picture in pictures() + every_picture(1, 4):
            told = worths_in(picture)
            self.assertIsInstance(told, list)
            self.assertEqual(told, sorted({worth for row in painted(picture) for worth in row}))

    def test_a_new_list_each_time(self):
        worths_in(PICTURE).clear()
        self.assertEqual(worths_in(PICTURE), [0, 1, 2, 9])


class TestBoxOf(PictureTest):
    def test_named(self):
        self.assertEqual(box_of(PICTURE, 0), (0, 0, 2, 4))
        self.assertEqual(box_of(PICTURE, 1), (2, 0, 2, 2))
        self.assertEqual(box_of(PICTURE, 2), (2, 1, 1, 1))
        self.assertEqual(box_of(PICTURE, 9), (2, 2, 2, 2))
        self.assertEqual(box_of((3, full_tree(3, 4)), 4), (0, 0, 8, 8))
        self.assertEqual(box_of((0, 4), 4), (0, 0, 1, 1))
        # No spot of the worth lies at a corner of its box.
        rows = ((0, 5, 0, 0), (0, 0, 0, 5), (5, 0, 0, 0), (0, 0, 5, 0))
        self.assertEqual(box_of(of_rows(rows), 5), (0, 0, 4, 4))

    def test_worths_that_stand_nowhere(self):
        for picture in pictures():
            for worth in range(10):
                if not any(worth in row for row in painted(picture)):
                    self.assertIsNone(box_of(picture, worth))
        self.assertIsNone(box_of((0, 1), 0))

    def test_all(self):
        for picture in pictures() + every_picture(1, 3):
            for worth in range(10):
                spots = [(x, y) for y, row in enumerate(painted(picture)) for x, spot in enumerate(row) if spot == worth]
                box = None
                if spots:
                    left, top = min(x for x, y in spots), min(y for x, y in spots)
                    box = (left, top, max(x for x, y in spots) - left + 1, max(y for x, y in spots) - top + 1)
                self.assertEqual(box_of(picture, worth), box)

    def test_things_that_are_no_worth(self):
        for picture in EACH_SIZE + [(0, 0), (0, 1), (1, (0, 1, 0, 1))]:
            for thing in NO_WORTHS:
                self.assertRaises(NoPicture, box_of, picture, thing)

    def test_things_that_are_no_picture(self):
        for thing in NO_PICTURES:
            self.assertRaises(NoPicture, box_of, thing, 5)
            self.assertRaises(NoPicture, box_of, thing, None)


class TestRunsIn(PictureTest):
    def test_named(self):
        self.assertEqual(runs_in(PICTURE, 0), [(0, 2), (1, 2)])
        self.assertEqual(runs_in(PICTURE, 1), [(0, 2), (2, 1), (1, 1)])
        self.assertEqual(runs_in(PICTURE, 3), [(0, 2), (9, 2)])
        self.assertEqual(runs_in((0, 7), 0), [(7, 1)])
        self.assertEqual(runs_in((3, full_tree(3, 7)), 7), [(7, 8)])
        self.assertEqual(runs_in(of_rows(((1, 2, 1, 2),) * 4), 2), [(1, 1), (2, 1), (1, 1), (2, 1)])
        self.assertEqual(runs_in(of_rows(((1, 1, 2, 1),) * 4), 2), [(1, 2), (2, 1), (1, 1)])

    def test_all(self):
        for picture in pictures() + every_picture(1, 3):
            for y, row in enumerate(painted(picture)):
                told = runs_in(picture, y)
                self.assertIsInstance(told, list)
                self.assertTrue(all(isinstance(run, tuple) for run in told))
                self.assertEqual(told, [(worth, len(list(run))) for worth, run in itertools.groupby(row)])

    def test_what_is_no_rows_number(self):
        for picture in EACH_SIZE + [PICTURE]:
            side = len(painted(picture))
            for thing in (-1, side, side + 1, -side, 10 ** 30, -10 ** 30, True, False, None, "", "0", [], [0], (), (0,)):
                with self.subTest(picture=picture, thing=thing):
                    self.assertRaises(NoSpot, runs_in, picture, thing)

    def test_the_picture_is_refused_first(self):
        for thing in NO_PICTURES:
            for y in (0, -1, 8, None, True, []):
                self.assertRaises(NoPicture, runs_in, thing, y)

    def test_a_new_list_each_time(self):
        runs_in(PICTURE, 0).clear()
        self.assertEqual(runs_in(PICTURE, 0), [(0, 2), (1, 2)])


class TestLikeRows(PictureTest):
    def test_named(self):
        self.assertEqual(like_rows(PICTURE), [(2, 3)])
        self.assertEqual(like_rows((0, 5)), [])
        self.assertEqual(like_rows((1, (1, 2, 3, 4))), [])
        self.assertEqual(like_rows((1, (1, 2, 1, 2))), [(0, 1)])
        self.assertEqual(like_rows((2, full_tree(2, 5))), [(0, 1), (0, 2), (0, 3), (1, 2), (1, 3), (2, 3)])
        self.assertEqual(like_rows(of_rows(((1, 2, 3, 4), (0, 0, 0, 0), (1, 2, 3, 4), (0, 0, 0, 0)))), [(0, 2), (1, 3)])
        # The first numbers come ahead: rising, as tuples are.
        self.assertEqual(like_rows(of_rows(((1, 2, 3, 4), (0, 0, 0, 0), (0, 0, 0, 0), (1, 2, 3, 4)))), [(0, 3), (1, 2)])

    def test_all(self):
        for picture in pictures() + every_picture(1, 3):
            rows = painted(picture)
            couples = itertools.combinations(range(len(rows)), 2)
            told = like_rows(picture)
            self.assertIsInstance(told, list)
            self.assertEqual(told, sorted((one, other) for one, other in couples if rows[one] == rows[other]))

    def test_a_new_list_each_time(self):
        like_rows(PICTURE).clear()
        self.assertEqual(like_rows(PICTURE), [(2, 3)])


class TestRolled(PictureTest):
    def test_named(self):
        picture = of_rows(((1, 2, 3, 4), (5, 6, 7, 8), (9, 0, 1, 2), (3, 4, 5, 6)))
        self.assertEqual(painted(rolled(picture, 1, 0)), ((4, 1, 2, 3), (8, 5, 6, 7), (2, 9, 0, 1), (6, 3, 4, 5)))
        self.assertEqual(painted(rolled(picture, 0, 1)), ((3, 4, 5, 6), (1, 2, 3, 4), (5, 6, 7, 8), (9, 0, 1, 2)))
        self.assertEqual(painted(rolled(picture, -1, 0))[0], (2, 3, 4, 1))
        self.assertEqual(rolled(PICTURE, 2, 0), (2, ((1, 1, 2, 1), 0, 9, 0)))
        self.assertEqual(rolled(PICTURE, 0, -2), (2, (0, 9, 0, (1, 1, 2, 1))))

    def test_spot_by_spot(self):
        for picture in EACH_SIZE + some_pictures(16):
            rows = painted(picture)
            for right, down in itertools.product(BY_AMOUNTS, repeat=2):
                self.assert_shows(rolled(picture, right, down), rolled_rows(rows, right, down))

    def test_as_far_back_it_is_as_it_was(self):
        for picture in pictures():
            for right, down in itertools.product(BY_AMOUNTS[::2], repeat=2):
                self.assertEqual(rolled(rolled(picture, right, down), -right, -down), lean(picture))

    def test_once_round(self):
        for picture in pictures():
            side = len(painted(picture))
            for right, down in ((0, 0), (side, 0), (0, side), (-side, 3 * side), (8 * 10 ** 30, -8 * 10 ** 30)):
                self.assertEqual(rolled(picture, right, down), lean(picture))

    def test_of_size_0_all_stays(self):
        for right, down in itertools.product(BY_AMOUNTS, repeat=2):
            self.assertEqual(rolled((0, 5), right, down), (0, 5))

    def test_one_behind_the_other(self):
        for picture in EACH_SIZE:
            self.assertEqual(rolled(rolled(picture, 3, 1), 2, -4), rolled(picture, 5, -3))
            self.assertEqual(rolled(rolled(picture, 1, 0), 0, 1), rolled(picture, 1, 1))


class TestFramed(PictureTest):
    def test_named(self):
        self.assertEqual(framed((2, 5), 5), (2, 5))
        self.assertEqual(framed((0, 5), 3), (0, 3))
        self.assertEqual(framed((1, (1, 2, 3, 4)), 7), (1, 7))
        self.assertEqual(framed(PICTURE, 8), (2, ((8, 8, 8, 0), (8, 8, 2, 8), (8, 0, 8, 8), (9, 8, 8, 8))))
        self.assertEqual(framed((3, 0), 1)[1][0], ((1, 1, 1, 0), (1, 1, 0, 0), (1, 0, 1, 0), 0))

    def test_spot_by_spot(self):
        for picture in pictures() + every_picture(1, 2):
            rows = painted(picture)
            last = len(rows) - 1
            for worth in range(10):
                self.assert_shows(framed(picture, worth), tuple(
                    tuple(worth if x in (0, last) or y in (0, last) else spot for x, spot in enumerate(row))
                    for y, row in enumerate(rows)))

    def test_things_that_are_no_worth(self):
        for picture in EACH_SIZE + [(3, 5)]:
            for thing in NO_WORTHS:
                self.assertRaises(NoPicture, framed, picture, thing)

    def test_things_that_are_no_picture(self):
        for thing in NO_PICTURES:
            self.assertRaises(NoPicture, framed, thing, 5)
            self.assertRaises(NoPicture, framed, thing, None)
