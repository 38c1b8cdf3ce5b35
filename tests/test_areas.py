import itertools

from samples import (EACH_SIZE, NO_PICTURES, NO_WORTHS, PictureTest, every_picture, every_rows, full_tree, painted,
                     some_pictures)

from fourfold.areas import area_at, area_sizes, areas, border, how_many_areas, poured
from fourfold.blocks import blocks
from fourfold.errors import NoPicture, NoSpot
from fourfold.pictures import lean, of_rows

# A ring of 1 with a hole of 0 in it, and 0 round it: three areas of two worths.
RING = of_rows((
    (0, 0, 0, 0, 0, 0, 0, 0),
    (0, 0, 0, 0, 0, 0, 0, 0),
    (0, 0, 1, 1, 1, 1, 0, 0),
    (0, 0, 1, 0, 0, 1, 0, 0),
    (0, 0, 1, 0, 0, 1, 0, 0),
    (0, 0, 1, 1, 1, 1, 0, 0),
    (0, 0, 0, 0, 0, 0, 0, 0),
    (0, 0, 0, 0, 0, 0, 0, 0),
))

# 1 goes up and down in a row: what comes together only far behind.
WINDING = of_rows((
    (1, 0, 1, 1),
    (1, 0, 1, 0),
    (1, 0, 1, 0),
    (1, 1, 1, 0),
))

CHECKS = of_rows(((1, 0, 1, 0), (0, 1, 0, 1), (1, 0, 1, 0), (0, 1, 0, 1)))

# Two parts of 5 that touch at a corner alone, and two of 6 likewise.
CORNERS = (2, (5, 6, 6, 5))

# The same worth at two ends.
APART = (2, (7, (1, 2, 1, 2), 3, 7))

# Areas in areas in an area, told by 16 parts.
ROUND = (2, ((9, 9, 9, 4), (9, 9, 5, 9), (9, 6, 9, 9), (4, 9, 9, 9)))

BY_NAME = [RING, WINDING, CHECKS, CORNERS, APART, ROUND]


def spots_together(rows, x, y):
    """All spots that come together with one, found step by step from it."""
    side = len(rows)
    met = {(x, y)}
    ahead = [(x, y)]
    while ahead:
        left, top = ahead.pop()
        for spot in ((left - 1, top), (left + 1, top), (left, top - 1), (left, top + 1)):
            if 0 <= spot[0] < side and 0 <= spot[1] < side and spot not in met and rows[spot[1]][spot[0]] == rows[y][x]:
                met.add(spot)
                ahead.append(spot)
    return met


def all_spots(rows):
    return list(itertools.product(range(len(rows)), repeat=2))


def areas_of(rows):
    """All areas, each as a set of spots."""
    return {frozenset(spots_together(rows, x, y)) for x, y in all_spots(rows)}


def spots_of(block):
    left, top, side, _ = block
    return [(x, y) for y in range(top, top + side) for x in range(left, left + side)]


def pictures():
    return BY_NAME + EACH_SIZE + some_pictures(60)


class TestAreaAt(PictureTest):
    def test_named_areas(self):
        self.assertEqual(area_at((2, (0, (1, 1, 2, 1), 0, 9)), 2, 0), [(2, 0), (3, 0), (3, 1)])
        self.assertEqual(area_at(RING, 3, 4), [(3, 3), (3, 4), (4, 3), (4, 4)])
        self.assertEqual(area_at(CORNERS, 1, 1), [(0, 0), (0, 1), (1, 0), (1, 1)])
        self.assertEqual(area_at(APART, 3, 3), [(2, 2), (2, 3), (3, 2), (3, 3)])
        self.assertEqual(area_at(CHECKS, 2, 2), [(2, 2)])
        self.assertEqual(area_at(WINDING, 3, 0), [
            (0, 0), (0, 1), (0, 2), (0, 3), (1, 3), (2, 0), (2, 1), (2, 2), (2, 3), (3, 0)])

    def test_a_plain_picture_is_one_area(self):
        for size, side in enumerate((1, 2, 4, 8)):
            for tree in (3, full_tree(size, 3)):
                self.assertEqual(area_at((size, tree), 0, side - 1), sorted(itertools.product(range(side), repeat=2)))

    def test_all_spots_step_by_step(self):
        for picture in pictures():
            rows = painted(picture)
            for x, y in all_spots(rows):
                told = area_at(picture, x, y)
                self.assertIsInstance(told, list)
                self.assertEqual(told, sorted(spots_together(rows, x, y)))

    def test_all_small_pictures(self):
        for rows in itertools.chain(every_rows(0, 10), every_rows(1, 4)):
            for x, y in all_spots(rows):
                self.assertEqual(area_at(of_rows(rows), x, y), sorted(spots_together(rows, x, y)))

    def test_a_new_list_each_time(self):
        area_at(CHECKS, 0, 0).clear()
        self.assertEqual(area_at(CHECKS, 0, 0), [(0, 0)])


class TestAreas(PictureTest):
    def test_named_areas(self):
        self.assertEqual(sorted(areas((2, (0, (1, 1, 2, 1), 0, 9)))), [
            [(0, 0, 2, 0), (0, 2, 2, 0)], [(2, 0, 1, 1), (3, 0, 1, 1), (3, 1, 1, 1)], [(2, 1, 1, 2)], [(2, 2, 2, 9)],
        ])
        self.assertEqual(sorted(areas(CORNERS)), [[(0, 0, 2, 5)], [(0, 2, 2, 6)], [(2, 0, 2, 6)], [(2, 2, 2, 5)]])
        self.assertEqual(areas((3, full_tree(3, 8))), [[(0, 0, 8, 8)]])

    def test_each_area_once(self):
        for picture in pictures():
            rows = painted(picture)
            told = [frozenset(spot for block in area for spot in spots_of(block)) for area in areas(picture)]
            self.assertEqual(len(told), len(set(told)))
            self.assertEqual(set(told), areas_of(rows))

    def test_blocks_as_in_blocks(self):
        for picture in pictures():
            known = blocks(picture)
            told = areas(picture)
            self.assertIsInstance(told, list)
            for area in told:
                self.assertIsInstance(area, list)
                self.assertEqual(area, [block for block in known if block in area])
            self.assertEqual(sorted(block for area in told for block in area), sorted(known))

    def test_all_pictures_of_two_worths(self):
        for picture in every_picture(1, 3):
            told = {frozenset(spot for block in area for spot in spots_of(block)) for area in areas(picture)}
            self.assertEqual(told, areas_of(painted(picture)))

    def test_blocks_that_come_together_only_by_a_later_one(self):
        # Three times two parts of 1, which the last ones of the tree bring together.
        picture = of_rows(((1, 0, 1, 0), (1, 0, 1, 0), (1, 1, 1, 1), (0, 0, 0, 1)))
        ones = [area for area in areas(picture) if area[0][3] == 1]
        self.assertEqual(len(ones), 1)
        self.assertEqual(ones[0], [block for block in blocks(picture) if block[3] == 1])

    def test_new_lists_each_time(self):
        told = areas(APART)
        kept = areas(APART)
        for area in told:
            area.clear()
        told.clear()
        self.assertEqual(areas(APART), kept)
        self.assertEqual(len(kept), 5)


class TestAreaSizes(PictureTest):
    def test_named_sizes(self):
        self.assertEqual(area_sizes((0, 4)), [1])
        self.assertEqual(area_sizes((3, full_tree(3, 1))), [64])
        self.assertEqual(area_sizes(RING), [4, 12, 48])
        self.assertEqual(area_sizes(CORNERS), [4, 4, 4, 4])
        self.assertEqual(area_sizes(CHECKS), [1] * 16)
        self.assertEqual(area_sizes(WINDING), [3, 3, 10])
        self.assertEqual(area_sizes((2, (0, (1, 1, 2, 1), 0, 9))), [1, 3, 4, 8])

    def test_all(self):
        for picture in pictures() + every_picture(1, 3):
            sizes = sorted(len(area) for area in areas_of(painted(picture)))
            told = area_sizes(picture)
            self.assertIsInstance(told, list)
            self.assertEqual(told, sizes)
            self.assertEqual(how_many_areas(picture), len(sizes))

    def test_how_many(self):
        self.assertEqual(how_many_areas((3, 5)), 1)
        self.assertEqual(how_many_areas(RING), 3)
        self.assertEqual(how_many_areas(CORNERS), 4)
        self.assertEqual(how_many_areas(APART), 5)
        self.assertEqual(how_many_areas(CHECKS), 16)

    def test_a_new_list_each_time(self):
        area_sizes(RING).clear()
        self.assertEqual(area_sizes(RING), [4, 12, 48])


class TestBorder(PictureTest):
    def test_named_borders(self):
        self.assertEqual(border((0, 7)), 0)
        self.assertEqual(border((3, full_tree(3, 7))), 0)
        self.assertEqual(border((1, (1, 2, 3, 4))), 4)
        self.assertEqual(border((1, (1, 1, 2, 2))), 2)
        self.assertEqual(border((1, (1, 2, 1, 2))), 2)
        self.assertEqual(border(CORNERS), 8)
        self.assertEqual(border(CHECKS), 24)
        self.assertEqual(border(RING), 16 + 8)

    def test_all_sides(self):
        for picture in pictures() + every_picture(1, 3):
            rows = painted(picture)
            unlike = 0
            for (x, y), (left, top) in itertools.combinations(all_spots(rows), 2):
                if abs(x - left) + abs(y - top) == 1 and rows[y][x] != rows[top][left]:
                    unlike += 1
            self.assertEqual(border(picture), unlike)


class TestPoured(PictureTest):
    def test_named(self):
        picture = (2, (0, (1, 1, 2, 1), 0, 9))
        self.assertEqual(poured(picture, 3, 1, 2), (2, (0, 2, 0, 9)))
        self.assertEqual(poured(picture, 0, 3, 9), (2, (9, (1, 1, 2, 1), 9, 9)))
        self.assertEqual(poured(RING, 4, 4, 1), of_rows(tuple(
            tuple(1 if 2 <= x <= 5 and 2 <= y <= 5 else 0 for x in range(8)) for y in range(8))))
        self.assertEqual(poured(CORNERS, 0, 0, 6), (2, (6, 6, 6, 5)))
        self.assertEqual(poured(APART, 0, 0, 8), (2, (8, (1, 2, 1, 2), 3, 7)))

    def test_all_spots_of_the_area_and_no_other(self):
        for picture in BY_NAME + EACH_SIZE + some_pictures(24):
            rows = painted(picture)
            for x, y in all_spots(rows)[::3]:
                area = spots_together(rows, x, y)
                beside = {worth for row in rows for worth in row}
                for worth in sorted(beside | {rows[y][x], (rows[y][x] + 1) % 10}):
                    self.assert_shows(poured(picture, x, y, worth), tuple(
                        tuple(worth if (left, top) in area else spot for left, spot in enumerate(row))
                        for top, row in enumerate(rows)))

    def test_with_its_own_worth(self):
        for picture in pictures():
            rows = painted(picture)
            for x, y in all_spots(rows)[::5]:
                self.assertEqual(poured(picture, x, y, rows[y][x]), lean(picture))

    def test_areas_come_together(self):
        told = poured(CORNERS, 0, 0, 6)
        self.assertEqual(how_many_areas(told), 2)
        self.assertEqual(area_sizes(told), [4, 12])
        self.assertEqual(poured(told, 3, 0, 5), (2, 5))


class TestRefusals(PictureTest):
    def test_spots_beyond(self):
        for picture in EACH_SIZE + [(3, 5), RING]:
            side = len(painted(picture))
            for x, y in ((-1, 0), (0, -1), (side, 0), (0, side), (side, side), (-1, -1), (10 ** 30, 0), (0, -10 ** 30),
                         (True, 0), (0, False), (True, True)):
                with self.subTest(picture=picture, x=x, y=y):
                    self.assertRaises(NoSpot, area_at, picture, x, y)
                    self.assertRaises(NoSpot, poured, picture, x, y, 1)

    def test_things_that_are_no_worth(self):
        for thing in NO_WORTHS:
            for picture in EACH_SIZE + [RING]:
                self.assertRaises(NoPicture, poured, picture, 0, 0, thing)

    def test_the_picture_then_the_spot_then_the_worth(self):
        for thing in NO_WORTHS:
            self.assertRaises(NoSpot, poured, RING, 8, 0, thing)
            self.assertRaises(NoSpot, poured, RING, 0, -1, thing)
        for thing in NO_PICTURES:
            self.assertRaises(NoPicture, area_at, thing, -1, 99)
            self.assertRaises(NoPicture, poured, thing, -1, 99, 5)
            self.assertRaises(NoPicture, poured, thing, -1, 99, None)
