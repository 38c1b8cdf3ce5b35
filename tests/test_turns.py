import itertools

from samples import (PictureTest, every_picture, every_rows, full_tree, mirrored_rows, painted, rows_by_way,
                     some_pictures, turned_rows)

from fourfold.errors import NoPicture, NoSpot
from fourfold.pictures import lean, of_rows, shown_rows, worth_at
from fourfold.turns import (all_ways, are_kin, behind_way, by_way, flipped, how_many_kinds, least_way, mirrored,
                            spot_behind, swapped, turned, ways_to)

NO_WAYS = [-1, 8, 9, -8, 10 ** 30, -10 ** 30, True, False]

# Each way shows these otherwise, the last one in a form that is not the least.
UNEVEN = [
    (1, (1, 2, 3, 4)),
    (2, (0, (1, 1, 2, 1), 0, 9)),
    (3, (((1, 2, 3, 4), 5, 6, 7), 0, (8, 8, 8, (8, 8, 8, 8)), ((9, 0, 9, 0), 1, 2, 2))),
]

# What keeps each of these as it is, in the numbers of ways.
EVEN = [
    ((0, 3), [0, 1, 2, 3, 4, 5, 6, 7]),
    ((1, (7, 7, 7, 7)), [0, 1, 2, 3, 4, 5, 6, 7]),
    ((3, full_tree(3, 2)), [0, 1, 2, 3, 4, 5, 6, 7]),
    ((1, (1, 2, 3, 4)), [0]),
    ((1, (1, 2, 1, 2)), [0, 6]),
    ((1, (1, 1, 2, 2)), [0, 4]),
    ((1, (1, 2, 2, 1)), [0, 2, 5, 7]),
    ((1, (1, 2, 2, 3)), [0, 7]),
    ((1, (1, 2, 3, 1)), [0, 5]),
    ((2, ((1, 2, 3, 4), (3, 1, 4, 2), (2, 4, 1, 3), (4, 3, 2, 1))), [0, 1, 2, 3]),
    ((2, ((0, 1, 0, 0), (0, 0, 0, 1), (1, 0, 0, 0), (0, 0, 1, 0))), [0, 1, 2, 3]),
    ((2, ((1, 0, 0, 0), (0, 0, 0, 2), (2, 0, 0, 0), (0, 0, 0, 1))), [0, 2]),
]


def each_least(rows):
    return min(rows_by_way(rows, way) for way in range(8))


class TestTurned(PictureTest):
    def test_named_pictures(self):
        picture = (1, (1, 2, 3, 4))
        self.assertEqual(turned(picture), (1, (3, 1, 4, 2)))
        self.assertEqual(mirrored(picture), (1, (2, 1, 4, 3)))
        self.assertEqual(flipped(picture), (1, (3, 4, 1, 2)))
        self.assertEqual(swapped(picture), (1, (1, 3, 2, 4)))

    def test_a_deeper_picture(self):
        picture = (2, (0, (1, 2, 3, 4), 5, 6))
        self.assertEqual(turned(picture), (2, (5, 0, 6, (3, 1, 4, 2))))
        self.assertEqual(mirrored(picture), (2, ((2, 1, 4, 3), 0, 6, 5)))
        self.assertEqual(flipped(picture), (2, (5, 6, 0, (3, 4, 1, 2))))
        self.assertEqual(swapped(picture), (2, (0, 5, (1, 3, 2, 4), 6)))

    def test_the_rows_of_many_pictures(self):
        for picture in some_pictures(120) + every_picture(1, 3):
            rows = painted(picture)
            self.assert_shows(turned(picture), turned_rows(rows))
            self.assert_shows(mirrored(picture), mirrored_rows(rows))
            self.assert_shows(flipped(picture), tuple(reversed(rows)))
            self.assert_shows(swapped(picture), tuple(zip(*rows)))

    def test_forms_that_are_not_the_least(self):
        for move in (turned, mirrored, flipped, swapped):
            for size in range(4):
                self.assertEqual(move((size, full_tree(size, 4))), (size, 4))
        self.assertEqual(turned((2, (1, (2, 2, 2, 2), 3, 4))), (2, (3, 1, 4, 2)))

    def test_done_again_they_give_back(self):
        for picture in some_pictures():
            self.assertEqual(turned(turned(turned(turned(picture)))), lean(picture))
            for move in (mirrored, flipped, swapped):
                self.assertEqual(move(move(picture)), lean(picture))


class TestWays(PictureTest):
    def test_each_way_of_one_picture(self):
        self.assertEqual([by_way((1, (1, 2, 3, 4)), way)[1] for way in range(8)], [
            (1, 2, 3, 4), (3, 1, 4, 2), (4, 3, 2, 1), (2, 4, 1, 3),
            (2, 1, 4, 3), (4, 2, 3, 1), (3, 4, 1, 2), (1, 3, 2, 4),
        ])

    def test_each_way_of_many_pictures(self):
        for picture in some_pictures(120):
            rows = painted(picture)
            for way in range(8):
                self.assert_shows(by_way(picture, way), rows_by_way(rows, way))

    def test_way_0_tells_the_least_form(self):
        for picture in some_pictures():
            self.assertEqual(by_way(picture, 0), lean(picture))

    def test_flipped_and_swapped_are_ways_too(self):
        for picture in some_pictures():
            self.assertEqual(by_way(picture, 6), flipped(picture))
            self.assertEqual(by_way(picture, 7), swapped(picture))

    def test_numbers_that_are_no_way(self):
        for size in range(4):
            for way in NO_WAYS:
                for tree in (5, full_tree(size, 5)):
                    with self.subTest(size=size, way=way):
                        self.assertRaises(NoSpot, by_way, (size, tree), way)

    def test_no_picture_is_refused_ahead_of_no_way(self):
        for way in NO_WAYS:
            self.assertRaises(NoPicture, by_way, (1, 10), way)
            self.assertRaises(NoPicture, by_way, [1, 5], way)

    def test_all_ways(self):
        for picture in some_pictures():
            told = all_ways(picture)
            self.assertIsInstance(told, list)
            self.assertEqual(told, [by_way(picture, way) for way in range(8)])

    def test_all_ways_are_a_new_list(self):
        picture = (1, (1, 2, 3, 4))
        told = all_ways(picture)
        told.clear()
        self.assertEqual(len(all_ways(picture)), 8)


class TestSpotBehind(PictureTest):
    def test_named_spots(self):
        self.assertEqual([spot_behind(2, way, 1, 0) for way in range(8)],
                         [(1, 0), (3, 1), (2, 3), (0, 2), (2, 0), (3, 2), (1, 3), (0, 1)])
        self.assertEqual([spot_behind(0, way, 0, 0) for way in range(8)], [(0, 0)] * 8)

    def test_a_lone_spot_comes_there(self):
        for size, side in enumerate((1, 2, 4, 8)):
            for x, y in itertools.product(range(side), repeat=2):
                rows = [[0] * side for _ in range(side)]
                rows[y][x] = 1
                picture = of_rows(tuple(map(tuple, rows)))
                for way in range(8):
                    told = spot_behind(size, way, x, y)
                    self.assertIsInstance(told, tuple)
                    self.assertEqual(len(told), 2)
                    shown = shown_rows(by_way(picture, way))
                    self.assertEqual(shown[told[1]][told[0]], 1, (size, way, x, y))

    def test_all_spots_of_many_pictures(self):
        for picture in some_pictures(20):
            side = len(painted(picture))
            for way in range(8):
                told = by_way(picture, way)
                for x, y in itertools.product(range(side), repeat=2):
                    far = spot_behind(picture[0], way, x, y)
                    self.assertEqual(worth_at(told, far[0], far[1]), worth_at(picture, x, y))

    def test_somewhat_beyond_nothing_is_refused(self):
        self.assertEqual(spot_behind(1, 8, 0, 0), (1, 0))
        self.assertEqual(spot_behind(1, -1, 0, 0), (0, 1))
        self.assertEqual(spot_behind(1, 2, 2, 0), (-1, 1))
        self.assertEqual(spot_behind(4, 1, 0, 0), (15, 0))


class TestBehindWay(PictureTest):
    def test_each_couple_of_ways(self):
        for one, other in itertools.product(range(8), repeat=2):
            told = behind_way(one, other)
            self.assertIn(told, range(8))
            for picture in UNEVEN:
                with self.subTest(one=one, other=other, picture=picture):
                    self.assertEqual(by_way(picture, told), by_way(by_way(picture, one), other))

    def test_which_is_first_matters(self):
        self.assertEqual(behind_way(4, 1), 5)
        self.assertEqual(behind_way(1, 4), 7)

    def test_ways_come_behind_one_another_as_one_way(self):
        for way in range(8):
            self.assertEqual((behind_way(0, way), behind_way(way, 0)), (way, way))
            self.assertEqual(sorted(behind_way(way, other) for other in range(8)), list(range(8)))
        for one, two, three in itertools.product(range(8), repeat=3):
            self.assertEqual(behind_way(behind_way(one, two), three), behind_way(one, behind_way(two, three)))

    def test_spots_come_to_the_same(self):
        for one, other in itertools.product(range(8), repeat=2):
            for x, y in itertools.product(range(4), repeat=2):
                near = spot_behind(2, one, x, y)
                self.assertEqual(spot_behind(2, other, near[0], near[1]), spot_behind(2, behind_way(one, other), x, y))

    def test_numbers_that_are_no_way(self):
        for way in NO_WAYS:
            for good in range(8):
                self.assertRaises(NoSpot, behind_way, way, good)
                self.assertRaises(NoSpot, behind_way, good, way)
            self.assertRaises(NoSpot, behind_way, way, way)


class TestKin(PictureTest):
    def test_ways_that_keep_a_picture(self):
        for picture, ways in EVEN:
            with self.subTest(picture=picture):
                self.assertEqual(ways_to(picture, picture), ways)
                self.assertEqual(ways_to(picture, lean(picture)), ways)
                self.assertEqual(ways_to(lean(picture), picture), ways)

    def test_ways_to_one_another(self):
        for picture in UNEVEN:
            for way in range(8):
                self.assertEqual(ways_to(picture, by_way(picture, way)), [way])

    def test_all_small_pictures_against_their_rows(self):
        pictures = [of_rows(rows) for rows in every_rows(1, 3)]
        for one, other in itertools.product(pictures, repeat=2):
            ways = [way for way in range(8) if rows_by_way(painted(one), way) == painted(other)]
            self.assertEqual(ways_to(one, other), ways)
            self.assertIs(are_kin(one, other), len(ways) > 0)

    def test_others_are_no_kin(self):
        picture = (1, (1, 2, 3, 4))
        self.assertEqual(ways_to(picture, (1, (1, 2, 4, 4))), [])
        self.assertEqual(ways_to(picture, (1, (1, 4, 2, 3))), [])
        self.assertIs(are_kin(picture, (1, (1, 4, 2, 3))), False)
        self.assertIs(are_kin((2, (0, 0, 0, (0, 0, 0, 1))), (2, (0, 0, 0, (0, 0, 1, 0)))), False)

    def test_unlike_sizes(self):
        for one, other in itertools.product(range(4), repeat=2):
            self.assertEqual(ways_to((one, 5), (other, 5)), list(range(8)) if one == other else [])
            self.assertIs(are_kin((one, 5), (other, full_tree(other, 5))), one == other)
        self.assertEqual(ways_to((1, (1, 2, 3, 4)), (2, (1, 2, 3, 4))), [])

    def test_are_kin_of_many(self):
        for picture in some_pictures(24):
            for way in range(8):
                self.assertIs(are_kin(picture, by_way(picture, way)), True)
                self.assertIs(are_kin(by_way(picture, way), picture), True)

    def test_ways_are_a_new_list(self):
        picture = (1, (1, 2, 3, 4))
        ways_to(picture, picture).append(9)
        self.assertEqual(ways_to(picture, picture), [0])


class TestLeastWay(PictureTest):
    def test_named_pictures(self):
        self.assertEqual(least_way((1, (4, 3, 2, 1))), (1, (1, 2, 3, 4)))
        self.assertEqual(least_way((1, (2, 1, 0, 3))), (1, (0, 2, 3, 1)))
        # Row by row, not quarter by quarter: else this one, whose first quarter is plain, would be the least.
        self.assertEqual(least_way((2, (0, (1, 0, 0, 0), (1, 0, 0, 0), (1, 0, 0, 0)))),
                         (2, ((0, 0, 0, 1), (0, 0, 0, 1), (0, 0, 0, 1), 0)))
        self.assertEqual(least_way((3, full_tree(3, 6))), (3, 6))

    def test_the_rows_are_least(self):
        for picture in some_pictures(120) + every_picture(1, 3):
            self.assert_shows(least_way(picture), each_least(painted(picture)))

    def test_kin_have_one_least_way(self):
        pictures = every_picture(1, 3) + some_pictures(40)
        leasts = [least_way(picture) for picture in pictures]
        for number, one in enumerate(pictures[::7]):
            for other, least in zip(pictures, leasts):
                self.assertIs(are_kin(one, other), leasts[7 * number] == least)


class TestKinds(PictureTest):
    def test_counted_by_going_through_all(self):
        cases = [(0, worths) for worths in (1, 2, 10)] + [(1, worths) for worths in range(1, 7)] + [(2, 1), (2, 2)]
        for size, worths in cases:
            kinds = {each_least(rows) for rows in every_rows(size, worths)}
            with self.subTest(size=size, worths=worths):
                self.assertEqual(how_many_kinds(size, worths), len(kinds))

    def test_counted_by_least_ways(self):
        for size, worths in ((0, 10), (1, 1), (1, 2), (1, 4)):
            self.assertEqual(how_many_kinds(size, worths),
                             len({least_way(of_rows(rows)) for rows in every_rows(size, worths)}))

    def test_known_numbers(self):
        self.assertEqual([how_many_kinds(size, 2) for size in range(3)], [2, 6, 8548])
        self.assertEqual([how_many_kinds(size, 1) for size in range(4)], [1, 1, 1, 1])
        self.assertEqual(how_many_kinds(0, 10), 10)
        self.assertEqual(how_many_kinds(1, 10), 1540)

    def test_great_numbers(self):
        # Kept by a half turn and both mirrors are 32 free spots, by quarter turns 16, by the slants 36.
        for worths in (2, 3, 9, 10):
            kept = worths ** 64 + 3 * worths ** 32 + 2 * worths ** 16 + 2 * worths ** 36
            self.assertEqual(how_many_kinds(3, worths), kept // 8)
        self.assertEqual(how_many_kinds(2, 10), (10 ** 16 + 3 * 10 ** 8 + 2 * 10 ** 4 + 2 * 10 ** 10) // 8)

    def test_somewhat_beyond_nothing_is_refused(self):
        self.assertEqual(how_many_kinds(1, 0), 0)
        self.assertEqual(how_many_kinds(0, 12), 12)
        self.assertEqual(how_many_kinds(4, 1), 1)
