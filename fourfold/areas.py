"""Areas: spots of one worth that come together, and the sides between spots that don't."""

from fourfold.blocks import are_beside, blocks, has_spot, of_blocks, spots_of
from fourfold.pictures import check_picture, check_spot, check_worth, shown_rows
from fourfold.turns import swapped


def comes_to(block, area):
    return any([block[3] == other[3] and are_beside(block, other) for other in area])


def areas_with(block, found):
    # One block may bring areas together that were apart so far.
    area = [block]
    apart = []
    for other in found:
        if comes_to(block, other):
            area.extend(other)
        else:
            apart.append(other)
    return apart + [area]


def in_order(area, squares):
    return [block for block in squares if block in area]


def areas(picture):
    squares = blocks(picture)
    found = []
    for block in squares:
        found = areas_with(block, found)
    return [in_order(area, squares) for area in found]


def is_in(x, y, area):
    return any([has_spot(block, x, y) for block in area])


def blocks_round(picture, x, y):
    check_picture(picture)
    check_spot(picture, x, y)
    return [area for area in areas(picture) if is_in(x, y, area)][0]


def area_at(picture, x, y):
    spots = []
    for block in blocks_round(picture, x, y):
        spots.extend(spots_of(block))
    return sorted(spots)


def many_spots(area):
    return sum([block[2] * block[2] for block in area])


def area_sizes(picture):
    return sorted([many_spots(area) for area in areas(picture)])


def how_many_areas(picture):
    return len(areas(picture))


def unlike_in(row):
    return sum([1 for place in range(1, len(row)) if row[place] != row[place - 1]])


def unlike_across(picture):
    return sum([unlike_in(row) for row in shown_rows(picture)])


def border(picture):
    return unlike_across(picture) + unlike_across(swapped(picture))


def with_worth(block, worth):
    return (block[0], block[1], block[2], worth)


def poured(picture, x, y, worth):
    area = blocks_round(picture, x, y)
    check_worth(worth)
    rest = [block for block in blocks(picture) if block not in area]
    return of_blocks(picture[0], rest + [with_worth(block, worth) for block in area])
