import itertools

from samples import (EACH_SIZE, NO_CHANGES, NO_PICTURES, WITH_NONE, PictureTest, every_change, every_picture,
                     every_rows, full_tree, melts, of_one_size, painted, some_changes, some_pictures)

from fourfold.changes import (are_apart, back_of, behind, between, changed, is_change, lean_change, many_set,
                              squares_set, worths_unlike)
from fourfold.errors import NoChange, NoPicture, Unlike
from fourfold.pictures import lean, of_rows

PICTURE = (2, (0, (1, 1, 2, 1), 0, 9))
CHANGE = (2, (None, (None, 5, None, None), (7, 7, 7, 7), (None, None, None, None)))


def rows_over(one, other):
    """Rows with other ones set over them where these are not None."""
    return tuple(tuple(below if above is None else above for below, above in zip(*rows)) for rows in zip(one, other))


def tree_between(one, other):
    """The tree of a change from rows to rows, as the document tells it, by looking at the rows alone."""
    if one == other:
        return None
    if len({worth for row in other for worth in row}) == 1:
        return other[0][0]
    half = len(one) // 2
    return tuple(tree_between(tuple(row[left:left + half] for row in one[top:top + half]),
                              tuple(row[left:left + half] for row in other[top:top + half]))
                 for top in (0, half) for left in (0, half))


def spots_set(change):
    return {(x, y) for y, row in enumerate(painted(change)) for x, worth in enumerate(row) if worth is not None}


class ChangeTest(PictureTest):
    def assert_sets(self, told, rows):
        """That a change is told, in its least form, and sets these rows."""
        self.assertTrue(is_change(told), told)
        self.assertFalse(melts(told[1]), told)
        self.assertEqual(painted(told), rows)


class TestIsChange(ChangeTest):
    def test_pictures_are_changes(self):
        for picture in some_pictures() + every_picture(1, 3):
            self.assertIs(is_change(picture), True)

    def test_with_none(self):
        for change in WITH_NONE + some_changes() + every_change(1, 3):
            self.assertIs(is_change(change), True)
        for size in range(4):
            for depth in range(size + 1):
                self.assertIs(is_change((size, full_tree(depth, None))), True)

    def test_things_that_are_none(self):
        for thing in NO_CHANGES:
            with self.subTest(thing=thing):
                self.assertIs(is_change(thing), False)

    def test_trees_too_deep(self):
        for size in range(4):
            for end in (None, 5):
                self.assertIs(is_change((size, full_tree(size + 1, end))), False)
                self.assertIs(is_change((size, full_tree(size + 6, end))), False)


class TestLeanChange(ChangeTest):
    def test_named(self):
        self.assertEqual(lean_change(CHANGE), (2, (None, (None, 5, None, None), 7, None)))
        self.assertEqual(lean_change((2, (None, (None,) * 4, None, None))), (2, None))
        self.assertEqual(lean_change((2, (5, (5, 5, 5, 5), 5, 5))), (2, 5))
        self.assertEqual(lean_change((1, (None, 0, 0, 0))), (1, (None, 0, 0, 0)))
        for size in range(4):
            self.assertEqual(lean_change((size, full_tree(size, None))), (size, None))
            self.assertEqual(lean_change((size, full_tree(size, 0))), (size, 0))

    def test_sets_the_same(self):
        for change in some_changes(120) + every_change(1, 3):
            self.assert_sets(lean_change(change), painted(change))
            self.assertEqual(lean_change(lean_change(change)), lean_change(change))

    def test_of_pictures_it_is_lean(self):
        for picture in some_pictures():
            self.assertEqual(lean_change(picture), lean(picture))


class TestChanged(ChangeTest):
    def test_named(self):
        self.assertEqual(changed(PICTURE, CHANGE), (2, (0, (1, 5, 2, 1), 7, 9)))
        self.assertEqual(changed(PICTURE, (2, (None, (None, None, 1, None), None, None))), (2, (0, 1, 0, 9)))
        self.assertEqual(changed((3, 5), (3, (5, 5, None, (5, None, 5, 5)))), (3, 5))
        self.assertEqual(changed((1, 5), (1, (None, 6, 0, None))), (1, (5, 6, 0, 5)))

    def test_nothing_all_and_itself(self):
        for picture in some_pictures():
            size = picture[0]
            for depth in range(size + 1):
                self.assertEqual(changed(picture, (size, full_tree(depth, None))), lean(picture))
                self.assertEqual(changed(picture, (size, full_tree(depth, 4))), (size, 4))
            self.assertEqual(changed(picture, picture), lean(picture))

    def test_spot_by_spot(self):
        for picture, change in of_one_size(some_pictures(40), some_changes(40)):
            self.assert_shows(changed(picture, change), rows_over(painted(picture), painted(change)))
        for picture, change in itertools.product(every_picture(1, 2), every_change(1, 2)):
            self.assert_shows(changed(picture, change), rows_over(painted(picture), painted(change)))


class TestBetween(ChangeTest):
    def test_named(self):
        self.assertEqual(between(PICTURE, (2, (0, (1, 5, 2, 1), 7, 9))), (2, (None, (None, 5, None, None), 7, None)))
        self.assertEqual(between((2, 5), (2, (5, 5, 5, (5, 5, 5, 6)))), (2, (None, None, None, (None, None, None, 6))))
        # One worth alone is set everywhere, also where it was before.
        self.assertEqual(between((2, (5, 5, 5, (5, 5, 5, 6))), (2, 5)), (2, 5))
        self.assertEqual(between((2, (5, 1, (1, 1, 5, 5), 1)), (2, (5, 5, 5, 1))), (2, (None, 5, 5, None)))
        self.assertEqual(between((0, 3), (0, 4)), (0, 4))
        self.assertEqual(between((0, 3), (0, 3)), (0, None))
        self.assertEqual(between((0, 0), (0, 0)), (0, None))

    def test_alike_pictures(self):
        for picture in some_pictures():
            self.assertEqual(between(picture, picture), (picture[0], None))
            self.assertEqual(between(picture, lean(picture)), (picture[0], None))
            self.assertEqual(between(lean(picture), picture), (picture[0], None))

    def test_quarters_that_are_alike_though_told_otherwise(self):
        one = (2, ((5, 5, 5, 5), 6, (1, 2, 3, 4), 7))
        other = (2, (5, (6, 6, 6, 6), (1, 2, 3, 4), (7, 7, 7, 8)))
        self.assertEqual(between(one, other), (2, (None, None, None, (None, None, None, 8))))
        self.assertEqual(between(other, one), (2, (None, None, None, 7)))
        self.assertEqual(between((3, 5), (3, full_tree(3, 6))), (3, 6))
        self.assertEqual(between((3, full_tree(3, 5)), (3, full_tree(2, 5))), (3, None))

    def test_as_told(self):
        for one, other in of_one_size(some_pictures(60), some_pictures(60)):
            told = between(one, other)
            self.assertTrue(is_change(told))
            self.assertEqual(told, (one[0], tree_between(painted(one), painted(other))))
        for one, other in itertools.product(every_rows(1, 3), repeat=2):
            self.assertEqual(between(of_rows(one), of_rows(other)), (1, tree_between(one, other)))
        for one, other in itertools.product(every_picture(1, 2), repeat=2):
            self.assertEqual(between(one, other), (1, tree_between(painted(one), painted(other))))

    def test_near_to_one_another(self):
        for picture in some_pictures(24):
            rows = painted(picture)
            for x, y in itertools.product(range(len(rows)), repeat=2):
                near = list(map(list, rows))
                near[y][x] = (near[y][x] + 1) % 10
                near = tuple(map(tuple, near))
                told = between(picture, of_rows(near))
                self.assertEqual(told, (picture[0], tree_between(rows, near)))
                self.assertEqual(changed(picture, told), of_rows(near))

    def test_leads_from_one_to_the_other(self):
        for one, other in of_one_size(some_pictures(40), some_pictures(40)):
            self.assertEqual(changed(one, between(one, other)), lean(other))
            self.assertEqual(lean_change(between(one, other)), between(one, other))


class TestBehind(ChangeTest):
    def test_named(self):
        self.assertEqual(behind((1, (1, 2, None, None)), (1, (None, 3, 4, None))), (1, (1, 3, 4, None)))
        self.assertEqual(behind((1, (None, 3, 4, None)), (1, (1, 2, None, None))), (1, (1, 2, 4, None)))
        self.assertEqual(behind((1, (None, 5, None, 5)), (1, (5, None, 5, None))), (1, 5))
        self.assertEqual(behind((2, None), (2, full_tree(2, None))), (2, None))
        self.assertEqual(behind((2, 0), (2, None)), (2, 0))
        self.assertEqual(behind((2, 3), (2, 0)), (2, 0))

    def test_spot_by_spot(self):
        for one, other in of_one_size(some_changes(40), some_changes(40)):
            self.assert_sets(behind(one, other), rows_over(painted(one), painted(other)))
        for one, other in itertools.product(every_change(1, 2), repeat=2):
            self.assert_sets(behind(one, other), rows_over(painted(one), painted(other)))

    def test_does_the_one_and_then_the_other(self):
        for one, other in of_one_size(some_changes(24), some_changes(24)):
            for picture in some_pictures(24):
                if picture[0] == one[0]:
                    self.assertEqual(changed(picture, behind(one, other)), changed(changed(picture, one), other))

    def test_three_either_way(self):
        for size in range(4):
            known = [change for change in some_changes(40) if change[0] == size][:9]
            for one, two, three in itertools.product(known, repeat=3):
                self.assertEqual(behind(behind(one, two), three), behind(one, behind(two, three)))


class TestBackOf(ChangeTest):
    def test_named(self):
        self.assertEqual(back_of(PICTURE, CHANGE), (2, (None, (None, 1, None, None), 0, None)))
        self.assertEqual(back_of((2, 5), (2, (5, 6, None, (5, 5, 5, 7)))), (2, 5))
        self.assertEqual(back_of(PICTURE, (2, 0)), (2, (None, (1, 1, 2, 1), None, 9)))
        # Where a worth is set that was there before, nothing changes.
        self.assertEqual(back_of(PICTURE, (2, (0, None, 0, 9))), (2, None))

    def test_as_between(self):
        for picture, change in of_one_size(some_pictures(40), some_changes(40)):
            rows = painted(picture)
            told = back_of(picture, change)
            self.assertEqual(told, (picture[0], tree_between(rows_over(rows, painted(change)), rows)))
            self.assertEqual(changed(changed(picture, change), told), lean(picture))


class TestAreApart(ChangeTest):
    def test_named(self):
        self.assertIs(are_apart((1, (1, None, None, 2)), (1, (None, 3, None, None))), True)
        self.assertIs(are_apart((1, (1, None, None, 2)), (1, (None, 3, None, 2))), False)
        self.assertIs(are_apart((2, (0, None, None, None)), (2, ((None, None, None, 0), None, None, None))), False)
        self.assertIs(are_apart((2, ((0, 0, 0, None), None, 0, 0)), (2, ((None, None, None, 0), 0, None, None))), True)
        self.assertIs(are_apart((0, 0), (0, 0)), False)
        self.assertIs(are_apart((0, None), (0, 0)), True)
        self.assertIs(are_apart((0, None), (0, None)), True)
        self.assertIs(are_apart((3, 5), (3, full_tree(3, None))), True)

    def test_spot_by_spot(self):
        for one, other in itertools.chain(of_one_size(some_changes(60), some_changes(60)),
                                          itertools.product(every_change(1, 2), repeat=2)):
            self.assertIs(are_apart(one, other), not spots_set(one) & spots_set(other))

    def test_then_either_order(self):
        met = 0
        for one, other in of_one_size(some_changes(60), some_changes(60)):
            if are_apart(one, other):
                met += 1
                self.assertEqual(behind(one, other), behind(other, one))
                for picture in EACH_SIZE:
                    if picture[0] == one[0]:
                        self.assertEqual(changed(changed(picture, one), other), changed(changed(picture, other), one))
        self.assertGreater(met, 100)


class TestSquaresSet(ChangeTest):
    def test_named(self):
        self.assertEqual(squares_set(CHANGE), [(3, 0, 1, 5), (0, 2, 2, 7)])
        self.assertEqual(squares_set((3, (None, (1, None, (2, None, None, 3), None), None, (0, 0, 0, 0)))), [
            (4, 0, 2, 1), (4, 2, 1, 2), (5, 3, 1, 3), (4, 4, 4, 0)])
        self.assertEqual(squares_set((1, (4, 3, 2, 1))), [(0, 0, 1, 4), (1, 0, 1, 3), (0, 1, 1, 2), (1, 1, 1, 1)])
        self.assertEqual(many_set(CHANGE), 5)
        self.assertEqual(many_set((3, (None, (1, None, (2, None, None, 3), None), None, (0, 0, 0, 0)))), 4 + 2 + 16)

    def test_nothing_and_all(self):
        for size, side in enumerate((1, 2, 4, 8)):
            for depth in range(size + 1):
                self.assertEqual(squares_set((size, full_tree(depth, None))), [])
                self.assertEqual(many_set((size, full_tree(depth, None))), 0)
                self.assertEqual(squares_set((size, full_tree(depth, 0))), [(0, 0, side, 0)])
                self.assertEqual(many_set((size, full_tree(depth, 0))), side * side)

    def test_of_the_least_form(self):
        for change in some_changes():
            self.assertEqual(squares_set(change), squares_set(lean_change(change)))

    def test_each_spot_that_is_set_once(self):
        for change in some_changes(120) + every_change(1, 3):
            rows = painted(change)
            met = []
            told = squares_set(change)
            self.assertIsInstance(told, list)
            for left, top, side, worth in told:
                for x, y in itertools.product(range(left, left + side), range(top, top + side)):
                    met.append((x, y))
                    self.assertEqual(rows[y][x], worth)
            self.assertEqual(sorted(met), sorted(spots_set(change)))
            self.assertEqual(many_set(change), len(met))

    def test_in_the_order_of_the_tree(self):
        def worths_in_order(tree):
            if isinstance(tree, tuple):
                return [worth for part in tree for worth in worths_in_order(part)]
            return [] if tree is None else [tree]

        for change in some_changes(120):
            told = squares_set(change)
            self.assertEqual([square[3] for square in told], worths_in_order(lean_change(change)[1]))

    def test_a_new_list_each_time(self):
        squares_set(CHANGE).clear()
        self.assertEqual(squares_set(CHANGE), [(3, 0, 1, 5), (0, 2, 2, 7)])


class TestWorthsUnlike(ChangeTest):
    def test_named(self):
        self.assertEqual(worths_unlike((0, 1), (0, 2)), 1)
        self.assertEqual(worths_unlike((3, 1), (3, 2)), 64)
        self.assertEqual(worths_unlike((2, 1), PICTURE), 13)
        self.assertEqual(worths_unlike((3, full_tree(3, 4)), (3, 4)), 0)

    def test_spot_by_spot(self):
        for one, other in itertools.chain(of_one_size(some_pictures(60), some_pictures(60)),
                                          itertools.product(every_picture(1, 2), repeat=2)):
            unlike = [1 for rows in zip(painted(one), painted(other)) for spots in zip(*rows) if spots[0] != spots[1]]
            self.assertEqual(worths_unlike(one, other), len(unlike))


class TestRefusals(ChangeTest):
    def test_things_that_are_no_change(self):
        for thing in NO_CHANGES:
            with self.subTest(thing=thing):
                for call in (lean_change, squares_set, many_set):
                    self.assertRaises(NoChange, call, thing)
                for call in (changed, back_of):
                    self.assertRaises(NoChange, call, PICTURE, thing)
                for call in (behind, are_apart):
                    self.assertRaises(NoChange, call, CHANGE, thing)
                    self.assertRaises(NoChange, call, thing, CHANGE)

    def test_changes_that_are_no_pictures(self):
        for thing in WITH_NONE:
            for call in (changed, back_of):
                self.assertRaises(NoPicture, call, thing, (thing[0], None))
            for call in (between, worths_unlike):
                self.assertRaises(NoPicture, call, thing, (thing[0], 5))
                self.assertRaises(NoPicture, call, (thing[0], 5), thing)

    def test_unlike_sizes(self):
        for one, other in itertools.permutations(range(4), 2):
            for call in (changed, back_of, between, worths_unlike):
                self.assertRaises(Unlike, call, (one, 5), (other, 5))
                self.assertRaises(Unlike, call, (one, full_tree(one, 5)), (other, full_tree(other, 5)))
            for call in (changed, back_of):
                self.assertRaises(Unlike, call, (one, 5), (other, None))
            for call in (behind, are_apart):
                for first, last in itertools.product((None, 5), repeat=2):
                    self.assertRaises(Unlike, call, (one, first), (other, full_tree(other, last)))

    def test_the_picture_is_refused_ahead_of_the_change(self):
        for thing, other in itertools.product(NO_PICTURES, NO_CHANGES[::4]):
            self.assertRaises(NoPicture, changed, thing, other)
            self.assertRaises(NoPicture, back_of, thing, other)

    def test_unlike_comes_behind_all_else(self):
        for thing in NO_CHANGES:
            for size in (0, 3):
                self.assertRaises(NoChange, changed, (size, 5), thing)
                self.assertRaises(NoChange, back_of, (size, 5), thing)
                for call in (behind, are_apart):
                    self.assertRaises(NoChange, call, (size, None), thing)
                    self.assertRaises(NoChange, call, thing, (size, None))
        for thing in NO_PICTURES:
            for size in (0, 3):
                for call in (between, worths_unlike):
                    self.assertRaises(NoPicture, call, (size, 5), thing)
                    self.assertRaises(NoPicture, call, thing, (size, 5))
                for call in (changed, back_of):
                    self.assertRaises(NoPicture, call, thing, (size, None))
