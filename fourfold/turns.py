"""Pictures turned and mirrored: the eight ways, what lies behind them, kin and kinds."""

from fourfold.errors import NoSpot
from fourfold.pictures import lean, shown_rows
from fourfold.trees import is_whole

# Ways 0 to 3 only turn, 4 to 7 mirror first.
WAYS = 8
TURNS = 4

# For each place of a quarter: the number of the quarter that comes there.
BY_TURNING = (2, 0, 3, 1)
BY_MIRRORING = (1, 0, 3, 2)
BY_FLIPPING = (2, 3, 0, 1)
BY_SWAPPING = (0, 2, 1, 3)


def moved_tree(tree, order):
    if not isinstance(tree, tuple):
        return tree
    return tuple([moved_tree(tree[number], order) for number in order])


def moved(picture, order):
    # Quarters that change places don't become the same, so a least form stays one.
    shown = lean(picture)
    return (shown[0], moved_tree(shown[1], order))


def turned(picture):
    return moved(picture, BY_TURNING)


def mirrored(picture):
    return moved(picture, BY_MIRRORING)


def flipped(picture):
    return moved(picture, BY_FLIPPING)


def swapped(picture):
    return moved(picture, BY_SWAPPING)


def check_way(thing):
    if not is_whole(thing) or not 0 <= thing < WAYS:
        raise NoSpot("a way is a whole number from 0 to 7")


def by_way(picture, way):
    told = lean(picture)
    check_way(way)
    if way >= TURNS:
        told = mirrored(told)
    for step in range(way % TURNS):
        told = turned(told)
    return told


def all_ways(picture):
    return [by_way(picture, way) for way in range(WAYS)]


def side_at(size):
    # By doubling, as no point says that sizes beyond 3 are refused where no picture is handed in.
    side = 1
    for step in range(size):
        side = side * 2
    return side


def spot_behind(size, way, x, y):
    last = side_at(size) - 1
    spot = (x, y)
    if way >= TURNS:
        spot = (last - x, y)
    for step in range(way % TURNS):
        spot = (last - spot[1], spot[0])
    return spot


def behind_way(one, other):
    check_way(one)
    check_way(other)
    mirrors = (one // TURNS + other // TURNS) % 2
    # Turns that are mirrored behind go round against the clock.
    turns = other - one if other >= TURNS else other + one
    return TURNS * mirrors + turns % TURNS


def ways_to(one, other):
    told = all_ways(one)
    aim = lean(other)
    return [way for way in range(WAYS) if told[way] == aim]


def are_kin(one, other):
    return len(ways_to(one, other)) > 0


def least_way(picture):
    return min(all_ways(picture), key=shown_rows)


def is_first_of_ring(size, way, x, y):
    spot = spot_behind(size, way, x, y)
    while spot != (x, y):
        if spot < (x, y):
            return False
        spot = spot_behind(size, way, spot[0], spot[1])
    return True


def rings(size, way):
    # Spots that come to one another by a way, done again and again, are a ring.
    many = 0
    for y in range(side_at(size)):
        for x in range(side_at(size)):
            if is_first_of_ring(size, way, x, y):
                many = many + 1
    return many


def how_many_kept(size, worths, way):
    # A way keeps a picture just if each ring has one worth.
    many = 1
    for step in range(rings(size, way)):
        many = many * worths
    return many


def how_many_kinds(size, worths):
    # A picture with k unlike kin, itself too, is kept by 8 / k ways: so each kind counts 8 in this sum.
    return sum([how_many_kept(size, worths, way) for way in range(WAYS)]) // WAYS
