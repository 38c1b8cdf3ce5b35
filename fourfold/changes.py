"""Changes: what leads from one picture to another one, told by quarters like them."""

from fourfold.blocks import blocks_in
from fourfold.errors import NoChange
from fourfold.pictures import check_picture, side_of
from fourfold.rules import check_pictures, check_sizes, joined, joined_tree
from fourfold.sums import counts
from fourfold.trees import is_sized_tree, is_worth, lean_tree, quarters_in


def is_setting(thing):
    return thing is None or is_worth(thing)


def is_change(thing):
    return is_sized_tree(thing, is_setting)


def check_change(thing):
    if not is_change(thing):
        raise NoChange("this is no change")


def check_changes(one, other):
    check_change(one)
    check_change(other)
    check_sizes([one, other])


def lean_change(change):
    check_change(change)
    return (change[0], lean_tree(change[1]))


def set_over(one, other):
    return one if other is None else other


def changed(picture, change):
    check_picture(picture)
    check_change(change)
    check_sizes([picture, change])
    return (picture[0], joined_tree(set_over, picture[1], change[1]))


def tree_between(one, other):
    # Both are least trees, so parts that look alike are the same.
    if one == other:
        return None
    if not isinstance(other, tuple):
        return other
    parts = quarters_in(one)
    return tuple([tree_between(parts[number], other[number]) for number in range(4)])


def between(one, other):
    check_pictures([one, other])
    return (one[0], tree_between(lean_tree(one[1]), lean_tree(other[1])))


def behind(one, other):
    check_changes(one, other)
    return (one[0], joined_tree(set_over, one[1], other[1]))


def back_of(picture, change):
    return between(changed(picture, change), picture)


def set_by_both(one, other):
    return 0 if one is None or other is None else 1


def are_apart(one, other):
    check_changes(one, other)
    return joined_tree(set_by_both, one[1], other[1]) == 0


def squares_set(change):
    squares = blocks_in(lean_change(change)[1], 0, 0, side_of(change))
    return [square for square in squares if square[3] is not None]


def many_set(change):
    return sum([square[2] * square[2] for square in squares_set(change)])


def worths_unlike(one, other):
    return counts(joined("same", one, other))[0]
