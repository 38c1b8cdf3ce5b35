"""The squares of one worth that pictures are made of."""

from fourfold.errors import NoBlocks
from fourfold.pictures import SIDES, check_picture, check_spot, lean, of_rows, side_of
from fourfold.trees import is_size, is_whole, is_worth


def blocks_in(tree, left, top, side):
    if not isinstance(tree, tuple):
        return [(left, top, side, tree)]
    half = side // 2
    told = []
    for number, part in enumerate(tree):
        told.extend(blocks_in(part, left + number % 2 * half, top + number // 2 * half, half))
    return told


def blocks(picture):
    return blocks_in(lean(picture)[1], 0, 0, side_of(picture))


def is_place(thing, side):
    return thing >= 0 and thing % side == 0


def is_block(thing):
    if not isinstance(thing, tuple) or len(thing) != 4:
        return False
    if not all([is_whole(number) for number in thing]):
        return False
    side = thing[2]
    return side in SIDES and is_place(thing[0], side) and is_place(thing[1], side) and is_worth(thing[3])


def check_blocks(size, things):
    if not is_size(size) or not isinstance(things, list):
        raise NoBlocks("these are no blocks of a picture")
    side = SIDES[size]
    for thing in things:
        if not is_block(thing):
            raise NoBlocks("this is no block")
        if thing[0] + thing[2] > side or thing[1] + thing[2] > side:
            raise NoBlocks("a block lies beyond the picture")


def spots_of(block):
    spots = []
    for y in range(block[1], block[1] + block[2]):
        spots.extend([(x, y) for x in range(block[0], block[0] + block[2])])
    return spots


def worths_by_spot(squares):
    worths = {}
    for block in squares:
        for spot in spots_of(block):
            if spot in worths:
                raise NoBlocks("two blocks have the same spot")
            worths[spot] = block[3]
    return worths


def row_of(worths, side, y):
    return tuple([worths[(x, y)] for x in range(side)])


def of_blocks(size, squares):
    check_blocks(size, squares)
    worths = worths_by_spot(squares)
    side = SIDES[size]
    if len(worths) != side * side:
        raise NoBlocks("the blocks have not every spot")
    return of_rows(tuple([row_of(worths, side, y) for y in range(side)]))


def has_spot(block, x, y):
    return block[0] <= x < block[0] + block[2] and block[1] <= y < block[1] + block[2]


def block_at(picture, x, y):
    check_picture(picture)
    check_spot(picture, x, y)
    return [block for block in blocks(picture) if has_spot(block, x, y)][0]


def meet(one, other, along):
    return one[along] + one[2] == other[along] or other[along] + other[2] == one[along]


def overlap(one, other, along):
    return one[along] < other[along] + other[2] and other[along] < one[along] + one[2]


def are_beside(one, other):
    # Blocks that meet both across and down share a corner alone.
    return meet(one, other, 0) and overlap(one, other, 1) or meet(one, other, 1) and overlap(one, other, 0)


def neighbours(picture, x, y):
    middle = block_at(picture, x, y)
    return [block for block in blocks(picture) if are_beside(middle, block)]
