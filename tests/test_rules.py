import copy
import itertools

from samples import NO_PICTURES, NO_WORTHS, PictureTest, every_picture, full_tree, listed, painted, some_pictures

from fourfold.errors import NoPicture, NoRule, Unlike
from fourfold.pictures import lean
from fourfold.rules import all_joined, joined, led_over, shaped

# The rules once more, as the document tells them.
RULES = {
    "first": lambda one, other: one,
    "last": lambda one, other: other,
    "least": lambda one, other: sorted([one, other])[0],
    "greatest": lambda one, other: sorted([one, other])[1],
    "sum": lambda one, other: int(str(one + other)[-1]),
    "times": lambda one, other: int(str(one * other)[-1]),
    "less": lambda one, other: one - other if one > other else other - one,
    "same": lambda one, other: int(one == other),
}

NO_RULES = ["", "First", "FIRST", "first ", " first", "first\n", "firs", "max", "most", "none", "0", "led", "sums",
            0, 1, -1, True, False, None, [], (), ["first"], ("first",), [["first"]], (("sum", []),), listed("sum", 10)]

ITSELF = tuple(range(10))
BACKWARDS = tuple(reversed(range(10)))

NO_TABLES = [
    (), (0,), ITSELF[:9], ITSELF + (0,), ITSELF + ITSELF, list(ITSELF), [ITSELF], (ITSELF,), "0123456789",
    tuple("0123456789"), 0, 5, True, False, None, "", "first", "sum", [], {}, listed(1, 10),
]
for place, thing in itertools.product((0, 4, 9), NO_WORTHS):
    NO_TABLES.append(ITSELF[:place] + (thing,) + ITSELF[place + 1:])


def rows_joined(rule, one, other):
    return tuple(tuple(RULES[rule](*couple) for couple in zip(*rows)) for rows in zip(one, other))


class TestJoined(PictureTest):
    def test_each_rule_on_all_couples_of_worths(self):
        for rule, make in RULES.items():
            for one, other in itertools.product(range(10), repeat=2):
                for size in range(4):
                    with self.subTest(rule=rule, one=one, other=other, size=size):
                        self.assertEqual(joined(rule, (size, one), (size, other)), (size, make(one, other)))

    def test_named_couples(self):
        self.assertEqual([joined(rule, (0, 7), (0, 9))[1] for rule in RULES], [7, 9, 7, 9, 6, 3, 2, 0])
        self.assertEqual([joined(rule, (0, 9), (0, 7))[1] for rule in RULES], [9, 7, 7, 9, 6, 3, 2, 0])
        self.assertEqual([joined(rule, (0, 5), (0, 5))[1] for rule in RULES], [5, 5, 5, 5, 0, 5, 0, 1])

    def test_spot_by_spot(self):
        pictures = some_pictures(40)
        for one, other in itertools.product(pictures, repeat=2):
            if one[0] != other[0]:
                continue
            for rule in RULES:
                self.assert_shows(joined(rule, one, other), rows_joined(rule, painted(one), painted(other)))

    def test_all_small_pictures(self):
        for one, other in itertools.product(every_picture(1, 2), repeat=2):
            for rule in RULES:
                self.assert_shows(joined(rule, one, other), rows_joined(rule, painted(one), painted(other)))

    def test_parts_melt_where_they_become_the_same(self):
        one = (2, ((1, 2, 3, 4), 5, 6, 7))
        self.assertEqual(joined("less", one, one), (2, 0))
        self.assertEqual(joined("same", one, one), (2, 1))
        self.assertEqual(joined("times", one, (2, 0)), (2, 0))
        self.assertEqual(joined("sum", one, (2, ((4, 3, 2, 1), 0, 0, 9))), (2, (5, 5, 6, 6)))

    def test_what_holds_of_worths_holds_of_pictures(self):
        pictures = [picture for picture in some_pictures(40) if picture[0] == 2]
        for one, other in itertools.product(pictures, repeat=2):
            for rule in ("least", "greatest", "sum", "times", "less", "same"):
                self.assertEqual(joined(rule, one, other), joined(rule, other, one))
            self.assertEqual(joined("first", one, other), lean(one))
            self.assertEqual(joined("last", one, other), lean(other))
            self.assertEqual(joined("less", joined("greatest", one, other), joined("least", one, other)),
                             joined("less", one, other))
        for one, two, three in itertools.product(pictures[:6], repeat=3):
            for rule in ("first", "last", "least", "greatest", "sum", "times"):
                self.assertEqual(joined(rule, joined(rule, one, two), three), joined(rule, one, joined(rule, two, three)))
            self.assertEqual(joined("times", one, joined("sum", two, three)),
                             joined("sum", joined("times", one, two), joined("times", one, three)))

    def test_words_that_are_none(self):
        for rule in NO_RULES:
            with self.subTest(rule=rule):
                self.assertRaises(NoRule, joined, rule, (1, 5), (1, 6))

    def test_unlike_sizes(self):
        for one, other in itertools.product(range(4), repeat=2):
            for rule in RULES:
                if one != other:
                    self.assertRaises(Unlike, joined, rule, (one, 5), (other, full_tree(other, 5)))

    def test_no_rule_is_raised_ahead_of_all(self):
        for rule in NO_RULES:
            self.assertRaises(NoRule, joined, rule, (1, 10), (1, 5))
            self.assertRaises(NoRule, joined, rule, (1, 5), None)
            self.assertRaises(NoRule, joined, rule, [], 0)
            self.assertRaises(NoRule, joined, rule, (1, 5), (2, 5))

    def test_no_picture_is_raised_ahead_of_unlike(self):
        for rule in RULES:
            for thing in NO_PICTURES:
                self.assertRaises(NoPicture, joined, rule, thing, (3, 5))
                self.assertRaises(NoPicture, joined, rule, (3, 5), thing)
                self.assertRaises(NoPicture, joined, rule, (0, 5), thing)


class TestLedOver(PictureTest):
    def test_named_tables(self):
        picture = (2, (0, (1, 1, 2, 1), 3, 9))
        self.assertEqual(led_over(ITSELF, picture), picture)
        self.assertEqual(led_over(BACKWARDS, picture), (2, (9, (8, 8, 7, 8), 6, 0)))
        self.assertEqual(led_over((5,) * 10, picture), (2, 5))
        self.assertEqual(led_over((0, 0, 0, 1, 1, 1, 1, 1, 1, 1), picture), (2, (0, 0, 1, 1)))

    def test_each_worth(self):
        for table in (ITSELF, BACKWARDS, (3, 1, 4, 1, 5, 9, 2, 6, 5, 3)):
            for worth in range(10):
                for size in range(4):
                    self.assertEqual(led_over(table, (size, full_tree(size, worth))), (size, table[worth]))

    def test_spot_by_spot(self):
        for picture in some_pictures(80):
            for table in (ITSELF, BACKWARDS, (1, 1, 1, 1, 1, 0, 0, 0, 0, 0), (3, 1, 4, 1, 5, 9, 2, 6, 5, 3)):
                rows = tuple(tuple(table[worth] for worth in row) for row in painted(picture))
                self.assert_shows(led_over(table, picture), rows)

    def test_tables_behind_one_another(self):
        odd = (3, 1, 4, 1, 5, 9, 2, 6, 5, 3)
        both = tuple(BACKWARDS[worth] for worth in odd)
        for picture in some_pictures():
            self.assertEqual(led_over(BACKWARDS, led_over(odd, picture)), led_over(both, picture))
            self.assertEqual(led_over(BACKWARDS, led_over(BACKWARDS, picture)), lean(picture))

    def test_tables_that_are_none(self):
        for table in NO_TABLES:
            with self.subTest(table=table):
                self.assertRaises(NoRule, led_over, table, (1, 5))

    def test_no_rule_is_raised_ahead_of_no_picture(self):
        for table in NO_TABLES:
            self.assertRaises(NoRule, led_over, table, (1, 10))
            self.assertRaises(NoRule, led_over, table, None)


class TestAllJoined(PictureTest):
    def test_of_one_picture(self):
        for picture in some_pictures():
            for rule in RULES:
                self.assertEqual(all_joined(rule, [picture]), lean(picture))

    def test_of_two_pictures(self):
        pictures = some_pictures(20)
        for one, other in itertools.product(pictures, repeat=2):
            if one[0] == other[0]:
                for rule in RULES:
                    self.assertEqual(all_joined(rule, [one, other]), joined(rule, one, other))

    def test_from_the_first_on(self):
        pictures = [(1, (1, 2, 3, 4)), (1, 9), (1, (2, 2, 2, 2)), (1, (5, 0, 5, 0))]
        self.assertEqual(all_joined("first", pictures), (1, (1, 2, 3, 4)))
        self.assertEqual(all_joined("last", pictures), (1, (5, 0, 5, 0)))
        self.assertEqual(all_joined("sum", pictures), (1, (7, 3, 9, 5)))
        # |||1 - 9| - 2| - 5| is 1; from the last on it would be otherwise.
        self.assertEqual(all_joined("less", pictures), (1, (1, 5, 1, 3)))
        self.assertEqual(all_joined("same", pictures), (1, (0, 1, 0, 1)))

    def test_of_many_pictures(self):
        for size in range(4):
            pictures = [picture for picture in some_pictures(120) if picture[0] == size]
            for rule in RULES:
                rows = painted(pictures[0])
                for picture in pictures[1:]:
                    rows = rows_joined(rule, rows, painted(picture))
                self.assert_shows(all_joined(rule, pictures), rows)

    def test_the_list_is_not_changed(self):
        pictures = [(1, (1, 1, 1, 1)), (1, (1, 2, 3, 4)), (1, 9)]
        kept = copy.deepcopy(pictures)
        for rule in RULES:
            all_joined(rule, pictures)
            self.assertEqual(pictures, kept)

    def test_words_that_are_none(self):
        for rule in NO_RULES:
            with self.subTest(rule=rule):
                for pictures in ([(1, 5)], [(1, 5), (1, 6)], [(1, 5), (2, 6)], [(1, 10)], [None, 5], [(1, 5), []], []):
                    self.assertRaises(NoRule, all_joined, rule, pictures)

    def test_unlike_sizes(self):
        for sizes in itertools.product(range(4), repeat=3):
            pictures = [(size, 5) for size in sizes]
            if len(set(sizes)) > 1:
                for rule in RULES:
                    self.assertRaises(Unlike, all_joined, rule, pictures)

    def test_no_picture_is_raised_ahead_of_unlike(self):
        for thing in NO_PICTURES:
            self.assertRaises(NoPicture, all_joined, "first", [thing])
            self.assertRaises(NoPicture, all_joined, "first", [(0, 5), (1, 5), thing])
            self.assertRaises(NoPicture, all_joined, "last", [(0, 5), thing, (1, 5), (3, 5)])
            self.assertRaises(NoPicture, all_joined, "last", [thing, (0, 5), (1, 5)])

    def test_an_empty_list_is_not_refused(self):
        self.assertIsNone(all_joined("sum", []))


class TestShaped(PictureTest):
    def test_named_pictures(self):
        picture = (2, ((1, 2, 3, 4), 5, 6, 7))
        other = (2, (8, 8, 8, (9, 9, 9, 0)))
        self.assertEqual(shaped(picture, (2, (1, 0, 0, 9)), other), (2, ((1, 2, 3, 4), 8, 8, 7)))
        self.assertEqual(shaped(picture, (2, (0, 0, (0, 0, 1, 0), 0)), other), (2, (8, 8, (8, 8, 6, 8), (9, 9, 9, 0))))

    def test_plain_masks(self):
        for picture, other in itertools.product(some_pictures(), repeat=2):
            if picture[0] == other[0]:
                size = picture[0]
                self.assertEqual(shaped(picture, (size, 0), other), lean(other))
                self.assertEqual(shaped(picture, (size, full_tree(size, 0)), other), lean(other))
                for worth in range(1, 10):
                    self.assertEqual(shaped(picture, (size, worth), other), lean(picture))

    def test_spot_by_spot(self):
        pictures = some_pictures(40)
        for picture, mask, other in itertools.product(pictures, pictures, pictures[::3]):
            if picture[0] == mask[0] == other[0]:
                rows = tuple(tuple(one if kept != 0 else two for one, kept, two in zip(*three))
                             for three in zip(painted(picture), painted(mask), painted(other)))
                self.assert_shows(shaped(picture, mask, other), rows)

    def test_parts_melt(self):
        self.assertEqual(shaped((2, (1, 2, 1, 2)), (2, (3, 0, 3, 0)), (2, (2, 1, 2, 1))), (2, 1))

    def test_unlike_sizes(self):
        for sizes in itertools.product(range(4), repeat=3):
            three = [(size, 5) for size in sizes]
            if len(set(sizes)) > 1:
                for worth in (0, 1):
                    three[1] = (sizes[1], worth)
                    self.assertRaises(Unlike, shaped, *three)

    def test_no_picture_is_raised_ahead_of_unlike(self):
        for thing in NO_PICTURES:
            self.assertRaises(NoPicture, shaped, thing, (1, 0), (2, 5))
            self.assertRaises(NoPicture, shaped, (1, 5), thing, (2, 5))
            self.assertRaises(NoPicture, shaped, (1, 5), (2, 1), thing)
