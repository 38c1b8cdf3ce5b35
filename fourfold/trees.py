"""Whole numbers, worths and trees: what the modules of pictures share.

Functions that take a tree trust it: whoever hands it on has asked is_sized_tree first.
"""

LARGEST_SIZE = 3
GREATEST_WORTH = 9


def is_whole(thing):
    # Truths are ints to Python, but no whole numbers here.
    return isinstance(thing, int) and not isinstance(thing, bool)


def is_worth(thing):
    return is_whole(thing) and 0 <= thing <= GREATEST_WORTH


def is_size(thing):
    return is_whole(thing) and 0 <= thing <= LARGEST_SIZE


def is_tree(size, thing, is_end):
    # What may stand at the ends of a tree is asked of is_end: of pictures worths alone, of changes None too.
    if not isinstance(thing, tuple):
        return is_end(thing)
    if size == 0 or len(thing) != 4:
        return False
    return all([is_tree(size - 1, part, is_end) for part in thing])


def is_sized_tree(thing, is_end):
    if not isinstance(thing, tuple) or len(thing) != 2:
        return False
    return is_size(thing[0]) and is_tree(thing[0], thing[1], is_end)


def put_together(four):
    # Only worths melt into one: four quarters that are parted alike stay four.
    first = four[0]
    if not isinstance(first, tuple) and four == (first, first, first, first):
        return first
    return four


def lean_tree(tree):
    # From the deepest quarters up, as quarters that melt may let those around them melt too.
    if not isinstance(tree, tuple):
        return tree
    return put_together(tuple([lean_tree(part) for part in tree]))


def quarters_in(tree):
    # A worth alone tells the same as four quarters of it.
    if isinstance(tree, tuple):
        return tree
    return (tree, tree, tree, tree)


def worth_in(tree, side, x, y):
    if not isinstance(tree, tuple):
        return tree
    half = side // 2
    number = 2 * (y // half) + x // half
    return worth_in(tree[number], half, x % half, y % half)


def tree_of(rows, left, top, side):
    if side == 1:
        return rows[top][left]
    half = side // 2
    return put_together((
        tree_of(rows, left, top, half),
        tree_of(rows, left + half, top, half),
        tree_of(rows, left, top + half, half),
        tree_of(rows, left + half, top + half, half),
    ))


def parts_in(tree):
    if not isinstance(tree, tuple):
        return 1
    return sum([parts_in(part) for part in tree])


def depth_in(tree):
    if not isinstance(tree, tuple):
        return 0
    return 1 + max([depth_in(part) for part in tree])
