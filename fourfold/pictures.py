"""Pictures, their spots, their rows and their least forms."""

from fourfold.errors import NoPicture, NoSpot
from fourfold.trees import is_sized_tree, is_whole, is_worth, lean_tree, tree_of, worth_in

# How many spots a picture of each size has across and down.
SIDES = (1, 2, 4, 8)


def is_picture(thing):
    return is_sized_tree(thing, is_worth)


def check_picture(thing):
    if not is_picture(thing):
        raise NoPicture("this is no picture")


def check_worth(thing):
    if not is_worth(thing):
        raise NoPicture("a worth is a whole number from 0 to 9")


def side_of(picture):
    return SIDES[picture[0]]


def is_along(side, thing):
    return is_whole(thing) and 0 <= thing < side


def check_spot(picture, x, y):
    side = side_of(picture)
    if not is_along(side, x) or not is_along(side, y):
        raise NoSpot("the picture has no such spot")


def worth_at(picture, x, y):
    check_picture(picture)
    check_spot(picture, x, y)
    return worth_in(picture[1], side_of(picture), x, y)


def shown_row(picture, y):
    side = side_of(picture)
    return tuple([worth_in(picture[1], side, x, y) for x in range(side)])


def shown_rows(picture):
    check_picture(picture)
    return tuple([shown_row(picture, y) for y in range(side_of(picture))])


def is_row(thing, side):
    if not isinstance(thing, tuple) or len(thing) != side:
        return False
    return all([is_worth(worth) for worth in thing])


def are_rows(thing):
    if not isinstance(thing, tuple) or len(thing) not in SIDES:
        return False
    return all([is_row(row, len(thing)) for row in thing])


def of_rows(rows):
    if not are_rows(rows):
        raise NoPicture("these are no rows of a picture")
    side = len(rows)
    return (SIDES.index(side), tree_of(rows, 0, 0, side))


def lean(picture):
    check_picture(picture)
    return (picture[0], lean_tree(picture[1]))


def is_lean(picture):
    return lean(picture) == picture


def alike(one, other):
    # The least forms hold the sizes too, so pictures of unlike sizes are never alike.
    return lean(one) == lean(other)
