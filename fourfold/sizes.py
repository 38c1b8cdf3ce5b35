"""How large pictures are, how many there are, and how quarters make larger ones."""

from fourfold.errors import NoPicture, NoSpot, Unlike
from fourfold.pictures import check_picture, lean
from fourfold.trees import LARGEST_SIZE, depth_in, is_whole, lean_tree, parts_in, quarters_in


def plain_parts(picture):
    check_picture(picture)
    return parts_in(picture[1])


def fewest_parts(picture):
    return plain_parts(lean(picture))


def deep(picture):
    return depth_in(lean(picture)[1])


def plain(size, worth):
    return (size, worth)


def how_many(size, worths):
    # Each size has four times the spots of the one before.
    many = worths
    for step in range(size):
        many = many ** 4
    return many


def how_many_deep(size, worths, most):
    # Where nothing is parted deeper, the parts of that depth are free like the spots of a smaller picture.
    if most < 0:
        return 0
    return how_many(min(size, most), worths)


def is_quarter(number):
    return is_whole(number) and 0 <= number <= 3


def check_quarter(picture, number):
    if picture[0] == 0 or not is_quarter(number):
        raise NoSpot("the picture has no such quarter")


def quarter_of(picture, number):
    check_picture(picture)
    check_quarter(picture, number)
    return (picture[0] - 1, lean_tree(quarters_in(picture[1])[number]))


def check_four(four):
    if not isinstance(four, (list, tuple)) or len(four) != 4:
        raise NoPicture("these are no four pictures")
    # All four are asked ahead of their sizes, as Unlike comes behind NoPicture.
    for picture in four:
        check_picture(picture)


def of_quarters(four):
    check_four(four)
    size = four[0][0]
    if size == LARGEST_SIZE or any([picture[0] != size for picture in four]):
        raise Unlike("four pictures of one size below 3 make a picture")
    return (size + 1, lean_tree(tuple([picture[1] for picture in four])))


def grown(picture):
    # The tree stays: each of its parts only has four times the spots.
    check_picture(picture)
    if picture[0] == LARGEST_SIZE:
        raise Unlike("a picture of size 3 does not grow")
    return (picture[0] + 1, lean_tree(picture[1]))
