import copy
import itertools
import random

from samples import EACH_SIZE, NO_WORTHS, PictureTest, every_picture, full_tree, listed, painted, some_pictures

from fourfold.blocks import block_at, blocks, neighbours, of_blocks
from fourfold.errors import NoBlocks, NoPicture, NoSpot
from fourfold.pictures import lean
from fourfold.sizes import fewest_parts

PARTED = (2, (0, (1, 1, 2, 1), 0, 9))
PARTED_BLOCKS = [(0, 0, 2, 0), (2, 0, 1, 1), (3, 0, 1, 1), (2, 1, 1, 2), (3, 1, 1, 1), (0, 2, 2, 0), (2, 2, 2, 9)]

# Of unlike sides: one quarter is whole, the others are parted ever deeper.
UNLIKE_SIDES = (3, (1, (2, 3, 4, (5, 6, 7, 8)), (2, (3, 4, 5, 6), 7, 8), 9))

# No block of any picture, whatever else is there.
NO_BLOCKS = [
    None, 0, 5, -1, True, False, "", "0015", [], (), (0,), (0, 0, 1), (0, 0, 1, 5, 0), [0, 0, 1, 5], ((0, 0, 1, 5),),
    (0, 0, 0, 5), (0, 0, -1, 5), (0, 0, 3, 5), (0, 0, 5, 5), (0, 0, 6, 5), (0, 0, 16, 5), (0, 0, 10 ** 30, 5),
    (0, 0, True, 5), (False, 0, 1, 5), (0, False, 1, 5), (True, 0, 1, 5), (0, True, 1, 5), (0, 0, None, 5),
    (None, 0, 1, 5), (0, "0", 1, 5), (0, 0, "1", 5), (0, 0, [1], 5), ((0,), 0, 1, 5), (0, 0, 1, (5,)), listed(1, 10),
    (-1, 0, 1, 5), (0, -1, 1, 5), (-2, 0, 2, 5), (0, -8, 8, 5), (-10 ** 30, 0, 1, 5),
    # not as the side divides
    (1, 0, 2, 5), (0, 1, 2, 5), (1, 1, 2, 5), (2, 0, 4, 5), (0, 2, 4, 5), (1, 0, 4, 5), (3, 0, 2, 5), (4, 0, 8, 5),
    (0, 1, 8, 5), (0, 6, 4, 5),
] + [(0, 0, 1, worth) for worth in NO_WORTHS]


def spots_of(block):
    left, top, side = block[:3]
    return set(itertools.product(range(left, left + side), range(top, top + side)))


def sides_apart(one, other):
    return any(abs(x - far_x) + abs(y - far_y) == 1 for x, y in spots_of(one) for far_x, far_y in spots_of(other))


def single_blocks(picture):
    return [(x, y, 1, worth) for y, row in enumerate(painted(picture)) for x, worth in enumerate(row)]


class TestBlocks(PictureTest):
    def test_named_pictures(self):
        self.assertEqual(blocks(PARTED), PARTED_BLOCKS)
        self.assertEqual(blocks((0, 7)), [(0, 0, 1, 7)])
        self.assertEqual(blocks((1, (1, 2, 3, 4))), [(0, 0, 1, 1), (1, 0, 1, 2), (0, 1, 1, 3), (1, 1, 1, 4)])
        self.assertEqual(blocks(UNLIKE_SIDES), [
            (0, 0, 4, 1),
            (4, 0, 2, 2), (6, 0, 2, 3), (4, 2, 2, 4), (6, 2, 1, 5), (7, 2, 1, 6), (6, 3, 1, 7), (7, 3, 1, 8),
            (0, 4, 2, 2), (2, 4, 1, 3), (3, 4, 1, 4), (2, 5, 1, 5), (3, 5, 1, 6), (0, 6, 2, 7), (2, 6, 2, 8),
            (4, 4, 4, 9),
        ])

    def test_of_the_least_form(self):
        for size, side in enumerate((1, 2, 4, 8)):
            self.assertEqual(blocks((size, full_tree(size, 6))), [(0, 0, side, 6)])
        for picture in some_pictures():
            self.assertEqual(blocks(picture), blocks(lean(picture)))
            self.assertEqual(len(blocks(picture)), fewest_parts(picture))

    def test_each_spot_once_and_with_its_worth(self):
        for picture in some_pictures(120) + every_picture(1, 3):
            rows = painted(picture)
            met = []
            for block in blocks(picture):
                self.assertIsInstance(block, tuple)
                for x, y in spots_of(block):
                    met.append((x, y))
                    self.assertEqual(rows[y][x], block[3])
            self.assertEqual(sorted(met), sorted(itertools.product(range(len(rows)), repeat=2)))

    def test_a_new_list_each_time(self):
        blocks(PARTED).clear()
        self.assertEqual(blocks(PARTED), PARTED_BLOCKS)


class TestOfBlocks(PictureTest):
    def test_back_from_blocks(self):
        for picture in some_pictures(120) + every_picture(1, 3):
            self.assertEqual(of_blocks(picture[0], blocks(picture)), lean(picture))

    def test_in_any_order(self):
        for order in itertools.permutations([(0, 0, 1, 1), (1, 0, 1, 2), (0, 1, 1, 3), (1, 1, 1, 4)]):
            self.assertEqual(of_blocks(1, list(order)), (1, (1, 2, 3, 4)))
        source = random.Random(7)
        for picture in some_pictures():
            mixed = blocks(picture)
            source.shuffle(mixed)
            self.assertEqual(of_blocks(picture[0], mixed), lean(picture))

    def test_smaller_than_need_be(self):
        for picture in some_pictures():
            self.assertEqual(of_blocks(picture[0], single_blocks(picture)), lean(picture))
        self.assertEqual(of_blocks(2, [(0, 0, 2, 5), (2, 0, 2, 5), (0, 2, 2, 5), (2, 2, 2, 5)]), (2, 5))
        self.assertEqual(of_blocks(3, [(0, 0, 4, 5), (4, 0, 4, 5), (0, 4, 4, 5)] +
                                   [(x, y, 2, 5) for x in (4, 6) for y in (4, 6)]), (3, 5))

    def test_all_lists_of_small_blocks(self):
        known = [(x, y, 1, worth) for x in (0, 1) for y in (0, 1) for worth in (0, 1)] + [(0, 0, 2, 0), (0, 0, 2, 1)]
        for many in range(5):
            for told in itertools.product(known, repeat=many):
                met = sorted(spot for block in told for spot in spots_of(block))
                if met != [(0, 0), (0, 1), (1, 0), (1, 1)]:
                    self.assertRaises(NoBlocks, of_blocks, 1, list(told))
                    continue
                rows = [[None, None], [None, None]]
                for block in told:
                    for x, y in spots_of(block):
                        rows[y][x] = block[3]
                self.assert_shows(of_blocks(1, list(told)), tuple(map(tuple, rows)))

    def test_one_left_out(self):
        for picture in some_pictures():
            told = blocks(picture)
            for number in range(len(told)):
                self.assertRaises(NoBlocks, of_blocks, picture[0], told[:number] + told[number + 1:])
        for size in range(4):
            self.assertRaises(NoBlocks, of_blocks, size, [])

    def test_one_twice(self):
        for picture in some_pictures():
            told = blocks(picture)
            for block in told:
                self.assertRaises(NoBlocks, of_blocks, picture[0], told + [block])
                self.assertRaises(NoBlocks, of_blocks, picture[0], [block] + told)

    def test_one_twice_in_the_place_of_another(self):
        told = list(PARTED_BLOCKS)
        told[1] = told[2]
        self.assertRaises(NoBlocks, of_blocks, 2, told)

    def test_one_over_others(self):
        self.assertRaises(NoBlocks, of_blocks, 2, PARTED_BLOCKS + [(0, 0, 4, 0)])
        self.assertRaises(NoBlocks, of_blocks, 2, PARTED_BLOCKS + [(0, 0, 1, 0)])
        self.assertRaises(NoBlocks, of_blocks, 1, [(0, 0, 2, 5), (1, 1, 1, 5)])

    def test_one_otherwise(self):
        for number, (left, top, side, worth) in enumerate(PARTED_BLOCKS):
            told = list(PARTED_BLOCKS)
            for other in range(10):
                told[number] = (left, top, side, other)
                self.assertEqual(of_blocks(2, told) == PARTED, other == worth)
                self.assertEqual(painted(of_blocks(2, told))[top][left], other)
            for block in ((left, top, 4, worth), (left, top, 3 - side, worth), ((left + side) % 4, top, side, worth),
                          (left, (top + side) % 4, side, worth)):
                told[number] = block
                self.assertRaises(NoBlocks, of_blocks, 2, told)

    def test_beyond_the_picture(self):
        for size, side in enumerate((1, 2, 4, 8)):
            for block in [(side, 0, 1, 5), (0, side, 1, 5), (side, side, side, 5), (side, 0, side, 5), (0, side, side, 5),
                          (8 * 10 ** 30, 0, 1, 5), (0, 8 * 10 ** 30, 8, 5)]:
                self.assertRaises(NoBlocks, of_blocks, size, [(0, 0, side, 5), block])
                self.assertRaises(NoBlocks, of_blocks, size, [block])
            for larger in (1, 2, 4, 8):
                if larger > side:
                    self.assertRaises(NoBlocks, of_blocks, size, [(0, 0, larger, 5)])

    def test_things_that_are_none(self):
        for thing in NO_BLOCKS:
            for size, side in enumerate((1, 2, 4, 8)):
                with self.subTest(thing=thing, size=size):
                    self.assertRaises(NoBlocks, of_blocks, size, [thing])
                    self.assertRaises(NoBlocks, of_blocks, size, [(0, 0, side, 5), thing])
                    self.assertRaises(NoBlocks, of_blocks, size, [thing, (0, 0, side, 5)])

    def test_things_in_the_place_of_the_one_that_is_missing(self):
        for thing in NO_BLOCKS:
            for number in range(4):
                told = [(0, 0, 1, 5), (1, 0, 1, 5), (0, 1, 1, 5), (1, 1, 1, 5)]
                told[number] = thing
                with self.subTest(thing=thing, number=number):
                    self.assertRaises(NoBlocks, of_blocks, 1, told)

    def test_squares_that_are_no_blocks_with_all_other_spots(self):
        for left, top, span in itertools.product(range(8), range(8), range(1, 9)):
            if max(left, top) + span > 8:
                continue
            square = (left, top, span, 5)
            rest = [block for block in single_blocks((3, 4)) if block[:2] not in spots_of(square)]
            if span in (1, 2, 4, 8) and left % span == 0 and top % span == 0:
                self.assertEqual(painted(of_blocks(3, [square] + rest))[top][left], 5)
            else:
                self.assertRaises(NoBlocks, of_blocks, 3, [square] + rest)

    def test_what_is_no_list(self):
        for thing in (None, 0, True, "", "0015", (), tuple(PARTED_BLOCKS)):
            self.assertRaises(NoBlocks, of_blocks, 2, thing)

    def test_no_picture_is_of_another_size(self):
        for size in (-1, 4, True, False):
            self.assertRaises(NoBlocks, of_blocks, size, [(0, 0, 1, 5)])
        self.assertRaises(NoBlocks, of_blocks, 4, [(x, y, 8, 5) for x in (0, 8) for y in (0, 8)])

    def test_the_list_is_not_changed(self):
        for told in (list(PARTED_BLOCKS), list(reversed(PARTED_BLOCKS)), PARTED_BLOCKS[1:], [[0, 0, 4, 5]]):
            kept = copy.deepcopy(told)
            try:
                of_blocks(2, told)
            except NoBlocks:
                pass
            self.assertEqual(told, kept)


class TestBlockAt(PictureTest):
    def test_named_spots(self):
        self.assertEqual(block_at(PARTED, 0, 0), (0, 0, 2, 0))
        self.assertEqual(block_at(PARTED, 1, 1), (0, 0, 2, 0))
        self.assertEqual(block_at(PARTED, 2, 1), (2, 1, 1, 2))
        self.assertEqual(block_at(PARTED, 1, 2), (0, 2, 2, 0))
        self.assertEqual(block_at(PARTED, 3, 2), (2, 2, 2, 9))
        self.assertEqual(block_at((3, full_tree(3, 4)), 5, 6), (0, 0, 8, 4))

    def test_all_spots(self):
        for picture in some_pictures():
            told = blocks(picture)
            side = len(painted(picture))
            for spot in itertools.product(range(side), repeat=2):
                self.assertEqual([block_at(picture, spot[0], spot[1])],
                                 [block for block in told if spot in spots_of(block)])

    def test_spots_beside(self):
        for size, side in enumerate((1, 2, 4, 8)):
            for beyond in (-1, side, side + 1, 10 ** 30, -10 ** 30, True, False):
                for x, y in ((beyond, 0), (0, beyond), (beyond, beyond)):
                    for tree in (5, full_tree(size, 5)):
                        for call in (block_at, neighbours):
                            with self.subTest(call=call, size=size, x=x, y=y):
                                self.assertRaises(NoSpot, call, (size, tree), x, y)

    def test_the_picture_is_refused_ahead_of_the_spot(self):
        for call in (block_at, neighbours):
            self.assertRaises(NoPicture, call, (1, 10), -1, 99)


class TestNeighbours(PictureTest):
    def test_of_unlike_sides(self):
        self.assertEqual(neighbours(UNLIKE_SIDES, 0, 0), [
            (4, 0, 2, 2), (4, 2, 2, 4), (0, 4, 2, 2), (2, 4, 1, 3), (3, 4, 1, 4),
        ])
        self.assertEqual(neighbours(UNLIKE_SIDES, 7, 7), [
            (4, 2, 2, 4), (6, 3, 1, 7), (7, 3, 1, 8), (3, 4, 1, 4), (3, 5, 1, 6), (2, 6, 2, 8),
        ])
        self.assertEqual(neighbours(UNLIKE_SIDES, 2, 4), [(0, 0, 4, 1), (0, 4, 2, 2), (3, 4, 1, 4), (2, 5, 1, 5)])

    def test_corners_that_only_touch_are_not_among_them(self):
        picture = (1, (1, 2, 3, 4))
        self.assertEqual(neighbours(picture, 0, 0), [(1, 0, 1, 2), (0, 1, 1, 3)])
        self.assertEqual(neighbours(picture, 1, 0), [(0, 0, 1, 1), (1, 1, 1, 4)])
        self.assertEqual(neighbours(picture, 0, 1), [(0, 0, 1, 1), (1, 1, 1, 4)])
        self.assertEqual(neighbours(picture, 1, 1), [(1, 0, 1, 2), (0, 1, 1, 3)])
        self.assertNotIn((4, 4, 4, 9), neighbours(UNLIKE_SIDES, 0, 0))

    def test_the_same_worth_is_a_neighbour_too(self):
        self.assertEqual(neighbours((1, (5, 5, 6, 5)), 0, 0), [(1, 0, 1, 5), (0, 1, 1, 6)])

    def test_a_plain_picture_has_none(self):
        for size in range(4):
            self.assertEqual(neighbours((size, full_tree(size, 5)), 0, 0), [])

    def test_all_spots_against_spots_beside(self):
        for picture in EACH_SIZE + [UNLIKE_SIDES] + some_pictures(24):
            told = blocks(picture)
            for middle in told:
                beside = [block for block in told if block != middle and sides_apart(middle, block)]
                for x, y in spots_of(middle):
                    self.assertEqual(neighbours(picture, x, y), beside)

    def test_neighbours_of_one_another(self):
        for picture in some_pictures(24):
            for middle in blocks(picture):
                for block in neighbours(picture, middle[0], middle[1]):
                    self.assertIn(middle, neighbours(picture, block[0], block[1]))

    def test_a_new_list_each_time(self):
        neighbours(PARTED, 0, 0).clear()
        self.assertEqual(neighbours(PARTED, 0, 0), [(2, 0, 1, 1), (2, 1, 1, 2), (0, 2, 2, 0)])
