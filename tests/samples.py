"""Pictures to try things on, and a second way to see what they show."""

import itertools
import random
import re
import unittest

from fourfold.pictures import is_picture


def every_tree(size, ends):
    """All trees of a size, in whatever form, with these things at their ends."""
    trees = list(ends)
    if size > 0:
        trees.extend(itertools.product(every_tree(size - 1, ends), repeat=4))
    return trees


def every_picture(size, worths):
    """All pictures of a size, in whatever form, of the worths below a number."""
    return [(size, tree) for tree in every_tree(size, range(worths))]


def every_change(size, worths):
    return [(size, tree) for tree in every_tree(size, [None] + list(range(worths)))]


def every_rows(size, worths):
    side = (1, 2, 4, 8)[size]
    for spots in itertools.product(range(worths), repeat=side * side):
        yield tuple(spots[y * side:(y + 1) * side] for y in range(side))


def painted(picture):
    """The rows of a picture, painted part by part onto a canvas, as the program does not do it."""
    size, tree = picture
    side = (1, 2, 4, 8)[size]
    canvas = [[None] * side for _ in range(side)]

    def paint(part, left, top, span):
        if isinstance(part, tuple):
            half = span // 2
            above_left, above_right, below_left, below_right = part
            paint(above_left, left, top, half)
            paint(above_right, left + half, top, half)
            paint(below_left, left, top + half, half)
            paint(below_right, left + half, top + half, half)
            return
        for y in range(top, top + span):
            for x in range(left, left + span):
                canvas[y][x] = part

    paint(tree, 0, 0, side)
    return tuple(tuple(row) for row in canvas)


def some_tree(source, size, ends):
    if size == 0 or source.randrange(4) == 0:
        return source.choice(ends)
    return tuple(some_tree(source, size - 1, ends) for _ in range(4))


def some_pictures(many=60):
    """The same pictures each time, of all sizes, in their least form and not."""
    source = random.Random(4)
    pictures = list(NAMED)
    for number in range(many):
        size = number % 4
        pictures.append((size, some_tree(source, size, range((2, 10)[number // 4 % 2]))))
    return pictures


def some_changes(many=60):
    """The same changes each time, of all sizes, in their least form and not; some of them are pictures."""
    source = random.Random(9)
    changes = WITH_NONE + EACH_SIZE
    for number in range(many):
        size = number % 4
        ends = ((None, 0, 1), (None, None, None, 0, 1, 2, 3, 4, 5, 6, 7, 8, 9))[number // 4 % 2]
        changes.append((size, some_tree(source, size, ends)))
    return changes


def of_one_size(things, others):
    """All couples of two lists whose sizes are the same."""
    return [(one, other) for one in things for other in others if one[0] == other[0]]


def full_tree(size, worth):
    """A tree that is parted as deep as it may be, of one worth."""
    tree = worth
    for _ in range(size):
        tree = (tree, tree, tree, tree)
    return tree


def melts(tree):
    """Whether somewhere in a tree four quarters are the same worth."""
    if not isinstance(tree, tuple):
        return False
    if not isinstance(tree[0], tuple) and tree == (tree[0],) * 4:
        return True
    return any(melts(part) for part in tree)


class PictureTest(unittest.TestCase):
    def assert_shows(self, told, rows):
        """That a picture is told, in its least form, and has these rows."""
        self.assertTrue(is_picture(told), told)
        self.assertFalse(melts(told[1]), told)
        self.assertEqual(painted(told), rows)


def turned_rows(rows):
    """Rows turned by the clock: the lowest spot of a column comes first in its row."""
    return tuple(zip(*reversed(rows)))


def mirrored_rows(rows):
    return tuple(tuple(reversed(row)) for row in rows)


def rows_by_way(rows, way):
    if way > 3:
        rows = mirrored_rows(rows)
    for _ in range(way % 4):
        rows = turned_rows(rows)
    return rows


def every_box(side):
    for left, top in itertools.product(range(side), repeat=2):
        for width, height in itertools.product(range(1, side - left + 1), range(1, side - top + 1)):
            yield (left, top, width, height)


def boxes_beyond(side):
    """Boxes that lie partly or wholly beyond a picture, or have no spot."""
    return [
        (0, 0, 0, 1), (0, 0, 1, 0), (0, 0, 0, 0), (0, 0, -1, 1), (0, 0, 1, -1), (1, 1, -1, -1),
        (side, 0, 0, 1), (0, side, 1, 0),
        (-1, 0, 1, 1), (0, -1, 1, 1), (-1, 0, 2, 1), (0, -1, 1, 2),
        (side, 0, 1, 1), (0, side, 1, 1), (side - 1, 0, 2, 1), (0, side - 1, 1, 2),
        (0, 0, side + 1, 1), (0, 0, 1, side + 1), (0, 0, side + 1, side + 1),
        (-1, -1, side + 2, side + 2), (10 ** 30, 0, 1, 1), (0, 0, 1, 10 ** 30), (-10 ** 30, 0, 10 ** 30 + 1, 1),
    ]


# Of a picture of any size.
NO_BOXES = [
    (False, 0, 1, 1), (0, False, 1, 1), (0, 0, True, 1), (0, 0, 1, True),
    (), (0, 0, 1), (0, 0, 1, 1, 1), [0, 0, 1, 1], (0, 0, 1, None), (0, 0, "1", 1), None, 5, "0011",
]

NAMED = [
    (0, 0),
    (0, 9),
    (1, 5),
    (1, (1, 2, 3, 4)),
    (1, (7, 7, 7, 7)),
    (2, (0, (1, 1, 2, 1), 0, 9)),
    (2, ((3, 3, 3, 3), 3, 3, 3)),
    (2, ((1, 2, 3, 4), (1, 2, 3, 4), (1, 2, 3, 4), (1, 2, 3, 4))),
    (3, 6),
    (3, full_tree(3, 8)),
    (3, (((1, 2, 3, 4), 5, 6, 7), 0, (8, 8, 8, (8, 8, 8, 8)), ((9, 0, 9, 0), 1, 2, 2))),
]

# One picture for each size, two of them not in their least form.
EACH_SIZE = [(0, 3), (1, (1, 1, 1, 1)), (2, (0, (1, 1, 2, 1), 0, 9)), (3, (((1, 2, 3, 4), 5, 5, 5), 0, full_tree(2, 8), 9))]

NO_WORTHS = [-1, 10, 11, 10 ** 30, -10 ** 30, True, False, None, "", "1", "5", [], [1], (), (1,), (1, 2, 3, 4)]

# No changes, and so no pictures either.
NO_CHANGES = [
    0, 5, -1, True, False, None, "", "0:5", "15", [], (), (0,), (5,), (0, 5, 0), (1, 2, 3, 4), [0, 5], [1, (1, 2, 3, 4)],
    ((0, 5),), ((0, 5), (0, 5)), (None, 5), ("1", 5), ((), 5), ([1], 5), ((1,), 5),
    (None,), (None, None), [0, None], (0, None, 0),
    # sizes beside 0 to 3
    (-1, 5), (4, 5), (4, full_tree(4, 1)), (10 ** 30, 5), (True, 5), (False, 5), (True, (1, 2, 3, 4)),
    (-1, None), (4, None), (True, None),
    # worths beside 0 to 9, at any depth
    (0, -1), (0, 10), (2, -1), (3, 10), (0, True), (0, False), (3, True), (0, "5"), (1, [5]), (0, [5]),
    (1, (1, 2, 3, 10)), (1, (-1, 2, 3, 4)), (1, (1, True, 3, 4)), (1, (1, 2, 3, False)),
    (2, (1, 2, 3, (1, 2, 3, True))), (3, (1, 2, (1, 2, 3, (False, 0, 0, 0)), 4)), (3, (1, 2, (1, 2, 3, (10, 0, 0, 0)), 4)),
    (3, (1, 2, (1, 2, 3, (0, 0, 0, "0")), 4)), (3, (None, 2, (None, 2, 3, (False, 0, 0, 0)), 4)),
    (3, (10, None, None, None)),
    # trees deeper than their size
    (0, (1, 2, 3, 4)), (0, (5,)), (1, ((1, 2, 3, 4), 2, 3, 4)), (1, full_tree(2, 1)), (2, full_tree(3, 1)),
    (0, (None,)), (0, full_tree(1, None)), (3, full_tree(4, None)),
    (3, full_tree(4, 1)), (3, full_tree(5, 1)), (3, (0, 0, 0, (0, 0, 0, (0, 0, 0, (0, 0, 0, 0))))),
    # tuples of another length
    (1, ()), (1, (1,)), (1, (1, 2, 3)), (1, (1, 2, 3, 4, 5)), (2, (1, 2, 3, (1, 2, 3))), (2, ((1, 2, 3, 4, 5), 1, 2, 3)),
    (1, (None,) * 3), (1, (None,) * 5), (3, (0, 0, 0, (0, 0, (0, 0), 0))), (3, (0, 0, 0, (0, 0, (), 0))),
    # lists in the place of tuples
    (1, [1, 2, 3, 4]), (2, (1, 2, 3, [1, 2, 3, 4])), (2, [(1, 2, 3, 4), 1, 2, 3]), [2, [1, 2, 3, 4]],
    (1, [None] * 4), (0, [None]),
    # texts that are as long as tuples are
    "ab", (1, "1234"), (2, (1, 2, 3, "1234")),
]


def nested(thing, times):
    for _ in range(times):
        thing = (3, thing)
    return thing


def listed(thing, times):
    for _ in range(times):
        thing = [thing, thing]
    return thing


NO_CHANGES.extend([nested(5, 2), nested(5, 10), nested(None, 10), listed(5, 10), (3, nested(5, 9)), (3, listed(1, 9))])

# Changes that are no pictures.
WITH_NONE = [
    (0, None), (3, None), (1, (None, 2, 3, 4)), (1, (None, None, None, None)), (2, (1, 2, 3, (1, 2, 3, None))),
    (2, (5, full_tree(1, None), (5, 5, 5, 5), None)), (3, (((None, 0, 0, 0), 0, 0, 0), 0, 0, 0)), (3, full_tree(3, None)),
]

NO_PICTURES = NO_CHANGES + WITH_NONE


# All signs that a text may have.
SIGNS = "".join(map(chr, range(ord(" "), ord("~") + 1))) + "\n"


def spoilt(text, signs):
    """Texts that are near to one: with a sign put in, taken out, exchanged, a stretch left out or told twice."""
    for place in range(len(text) + 1):
        yield text[:place]
        yield text[place:]
        for sign in signs:
            yield text[:place] + sign + text[place:]
            yield text[:place] + sign + text[place + 1:]
        for end in range(place + 1, min(len(text), place + 14) + 1):
            yield text[:place] + text[end:]
            yield text[:end] + text[place:]
        yield text[:place] + text[place + 1:place + 2] + text[place:place + 1] + text[place + 2:]


def written(picture):
    """A picture's text, made of how Python writes tuples."""
    return str(picture[0]) + ":" + re.sub("[ ,]", "", repr(picture[1]))


def tree_pattern(size):
    return "[0-9]" if size == 0 else rf"(?:[0-9]|\({tree_pattern(size - 1)}{{4}}\))"


# What a text that is a picture's looks like.
PICTURE_PATTERN = "|".join(f"{size}:{tree_pattern(size)}" for size in range(4))
