import itertools

from samples import (EACH_SIZE, NO_PICTURES, PictureTest, every_picture, every_rows, full_tree, listed, painted,
                     some_pictures)

from fourfold.errors import NoPicture, NoRule
from fourfold.pictures import lean, of_rows
from fourfold.views import best_view, least_wrong, seen_from

RULES = ("most", "least", "greatest")

NO_RULES = ["", "Most", "MOST", "most ", " most", "most\n", "mos", "max", "min", "first", "last", "sum", "same", "none",
            "0", 0, 1, True, False, None, [], (), ["most"], ("most",), [["least"]], {}, listed("most", 10)]

# Told by 16 parts, of unlike sides.
SIXTEEN = (3, (1, (2, 3, 4, (5, 6, 7, 8)), (2, (3, 4, 5, 6), 7, 8), 9))

# Four parts are wrong at fewer spots where they lie deep.
UNEVEN = (3, ((1, 1, 1, (1, 1, 1, 2)), (1, (3, 3, 3, 1), 1, 1), (4, 4, 4, 1), 1))

# Each quarter has several worths that are met as often.
EVEN = (2, ((4, 2, 2, 4), (9, 8, 7, 6), (1, 1, 0, 0), (3, 3, 3, 5)))


def cell_worth(worths, rule):
    if rule == "least":
        return sorted(worths)[0]
    if rule == "greatest":
        return sorted(worths)[-1]
    return sorted(worths, key=lambda worth: (-worths.count(worth), worth))[0]


def seen_rows(rows, far, rule):
    """The rows as they are seen from far, cell by cell; cells of one spot stay as they are."""
    side = len(rows)
    cell = max(1, side >> far)
    told = [list(row) for row in rows]
    for left, top in itertools.product(range(0, side, cell), repeat=2):
        spots = [(x, y) for x in range(left, left + cell) for y in range(top, top + cell)]
        worth = cell_worth([rows[y][x] for x, y in spots], rule)
        for x, y in spots:
            told[y][x] = worth
    return tuple(map(tuple, told))


def parts_needed(rows):
    """How many plain parts rows are told by at least."""
    if len({worth for row in rows for worth in row}) == 1:
        return 1
    half = len(rows) // 2
    return sum(parts_needed([row[left:left + half] for row in rows[top:top + half]])
               for left in (0, half) for top in (0, half))


def unlike(one, other):
    return sum(1 for rows in zip(one, other) for spots in zip(*rows) if spots[0] != spots[1])


def ways_to_tell(rows):
    """All ways to share parts over rows: (how many parts, at how many spots it is wrong), each couple once."""
    worths = [worth for row in rows for worth in row]
    ways = {(1, len(worths) - max(worths.count(worth) for worth in worths))}
    if len(set(worths)) == 1:
        return ways
    half = len(rows) // 2
    quarters = [[row[left:left + half] for row in rows[top:top + half]] for left in (0, half) for top in (0, half)]
    for four in itertools.product(*[ways_to_tell(quarter) for quarter in quarters]):
        ways.add((sum(way[0] for way in four), sum(way[1] for way in four)))
    return ways


def pictures():
    return EACH_SIZE + [SIXTEEN, UNEVEN, EVEN] + some_pictures(40)


class TestSeenFrom(PictureTest):
    def test_named(self):
        picture = (2, (0, (1, 1, 2, 1), 0, 9))
        self.assertEqual(seen_from(picture, 0, "most"), (2, 0))
        self.assertEqual(seen_from(picture, 1, "most"), (2, (0, 1, 0, 9)))
        self.assertEqual(seen_from(picture, 0, "least"), (2, 0))
        self.assertEqual(seen_from(picture, 0, "greatest"), (2, 9))
        self.assertEqual(seen_from(picture, 1, "greatest"), (2, (0, 2, 0, 9)))
        self.assertEqual(seen_from(picture, 2, "greatest"), picture)

    def test_of_several_the_least(self):
        self.assertEqual(seen_from(EVEN, 1, "most"), (2, (2, 6, 0, 3)))
        self.assertEqual(seen_from((1, (9, 3, 9, 3)), 0, "most"), (1, 3))
        self.assertEqual(seen_from((1, (4, 3, 2, 1)), 0, "most"), (1, 1))
        self.assertEqual(seen_from((1, (0, 9, 9, 9)), 0, "most"), (1, 9))

    def test_spots_are_counted_not_parts(self):
        self.assertEqual(seen_from((2, (7, (1, 1, 1, 2), 7, (1, 1, 1, 3))), 0, "most"), (2, 7))

    def test_cell_by_cell(self):
        for picture in pictures() + every_picture(1, 3):
            rows = painted(picture)
            for far, rule in itertools.product((0, 1, 2, 3, 4, 5, 10), RULES):
                with self.subTest(picture=picture, far=far, rule=rule):
                    self.assert_shows(seen_from(picture, far, rule), seen_rows(rows, far, rule))

    def test_beyond_the_deepest_all_stays(self):
        for picture in pictures():
            for far, rule in itertools.product((3, 4, 100, 10 ** 30), RULES):
                self.assertEqual(seen_from(picture, far, rule), lean(picture))

    def test_quarters_that_become_the_same_melt(self):
        self.assertEqual(seen_from((2, ((5, 5, 5, 1), (5, 2, 5, 5), 5, (3, 5, 5, 5))), 1, "most"), (2, 5))

    def test_words_that_are_none(self):
        for rule in NO_RULES:
            for far in (0, 1, 5):
                with self.subTest(rule=rule):
                    self.assertRaises(NoRule, seen_from, (2, 5), far, rule)
                    self.assertRaises(NoRule, seen_from, EVEN, far, rule)

    def test_no_rule_is_raised_ahead_of_all(self):
        for thing in NO_PICTURES:
            self.assertRaises(NoRule, seen_from, thing, 0, "sum")
            self.assertRaises(NoRule, seen_from, thing, 0, [])
            for rule in RULES:
                self.assertRaises(NoPicture, seen_from, thing, 0, rule)


class TestBestView(PictureTest):
    def assert_best(self, picture, most, wrong):
        """That at least so many spots are wrong, and that the view is wrong at no more."""
        self.assertEqual(least_wrong(picture, most), wrong, (picture, most))
        rows = painted(picture)
        told = best_view(picture, most)
        self.assert_shows(told, painted(told))
        self.assertEqual(told[0], picture[0])
        self.assertLessEqual(parts_needed(painted(told)), most)
        self.assertEqual(unlike(rows, painted(told)), wrong)

    def test_named(self):
        picture = (2, (0, (1, 1, 2, 1), 0, 9))
        self.assertEqual([least_wrong(picture, most) for most in range(1, 9)], [8, 8, 8, 1, 1, 1, 0, 0])
        self.assertEqual(best_view(picture, 4), (2, (0, 1, 0, 9)))
        self.assertEqual(best_view(picture, 1), (2, 0))
        self.assertEqual(best_view((3, (1, 1, 1, (1, 1, 1, 2))), 3), (3, 1))
        self.assertEqual(least_wrong((3, (1, 1, 1, (1, 1, 1, 2))), 3), 4)

    def test_parts_go_where_most_is_won(self):
        # With seven parts only one quarter can be parted.
        picture = (2, ((1, 1, 1, 2), (3, 3, 4, 4), 5, (6, 6, 6, 7)))
        self.assert_best(picture, 7, 2)
        self.assertEqual(best_view(picture, 9), (2, (1, (3, 3, 4, 4), 5, 6)))
        self.assert_best(picture, 10, 1)
        self.assert_best(picture, 13, 0)

    def test_what_is_won_only_far_within(self):
        # The quarter below left wins 4 spots by three parts more, two others 1 each, but by six parts more.
        picture = (3, (((1, 1, 1, 2), 1, 1, 1), 8, (5, 5, 5, 9), ((6, 6, 6, 7), 6, 6, 6)))
        self.assertEqual([least_wrong(picture, most) for most in (1, 4, 7, 10, 13, 16, 19, 22, 25)],
                         [48, 6, 2, 2, 1, 1, 0, 0, 0])

    def test_against_all_ways_to_share_the_parts(self):
        for picture in pictures():
            ways = ways_to_tell(painted(picture))
            needed = parts_needed(painted(picture))
            for most in list(range(1, min(needed, 26) + 4)) + [needed, needed + 1, 100]:
                self.assert_best(picture, most, min(wrong for parts, wrong in ways if parts <= most))

    def test_against_all_pictures_of_size_1(self):
        known = [(rows, parts_needed(rows)) for rows in every_rows(1, 4)]
        for picture in every_picture(1, 3):
            rows = painted(picture)
            for most in range(1, 6):
                fewest = min(unlike(rows, other) for other, parts in known if parts <= most)
                self.assert_best(picture, most, fewest)

    def test_against_all_pictures_of_two_worths(self):
        known = {most: [] for most in (1, 4, 7, 10, 13, 16)}
        for rows in every_rows(2, 2):
            known[parts_needed(rows)].append(int("".join(str(worth) for row in rows for worth in row), 2))
        for picture in [(2, ((0, 0, 0, 1), (1, 1, 0, 0), (1, 0, 1, 1), (0, 1, 1, 1))),
                        (2, ((0, 0, 0, 1), 1, 1, (1, 0, 0, 1))), (2, (0, (1, 1, 1, 0), 1, 0))]:
            bits = int("".join(str(worth) for row in painted(picture) for worth in row), 2)
            for most in range(1, 18):
                fewest = min(bin(bits ^ other).count("1") for parts in known if parts <= most for other in known[parts])
                self.assert_best(picture, most, fewest)

    def test_enough_parts(self):
        for picture in pictures():
            needed = parts_needed(painted(picture))
            for most in (needed, needed + 1, needed + 50, 10 ** 30):
                self.assertEqual(best_view(picture, most), lean(picture))
                self.assertEqual(least_wrong(picture, most), 0)
            if needed > 1:
                self.assertGreater(least_wrong(picture, needed - 1), 0)

    def test_told_not_in_the_least_form(self):
        for size in range(4):
            for most in (1, 2, 4, 16):
                self.assertEqual(best_view((size, full_tree(size, 5)), most), (size, 5))
                self.assertEqual(least_wrong((size, full_tree(size, 5)), most), 0)
        picture = (3, (full_tree(2, 1), 1, full_tree(1, 1), 2))
        self.assertEqual([least_wrong(picture, most) for most in range(1, 6)], [16, 16, 16, 0, 0])
        self.assertEqual(best_view(picture, 4), (3, (1, 1, 1, 2)))

    def test_no_part_at_all_is_taken_as_one(self):
        for picture in pictures():
            for most in (0, -1, -5):
                self.assertEqual(least_wrong(picture, most), least_wrong(picture, 1))
                self.assertEqual(best_view(picture, most), best_view(picture, 1))

    def test_the_most_parts_there_are(self):
        picture = of_rows(tuple(tuple((x * 3 + y * 7 + x * y) % 10 for x in range(8)) for y in range(8)))
        last = 64
        for most in range(1, 66):
            told = best_view(picture, most)
            wrong = least_wrong(picture, most)
            self.assertEqual(unlike(painted(picture), painted(told)), wrong)
            self.assertLessEqual(parts_needed(painted(told)), most)
            self.assertLessEqual(wrong, last)
            last = wrong
        self.assertEqual(last, 0)
