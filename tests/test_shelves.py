import itertools
import random

from samples import EACH_SIZE, NO_PICTURES, PictureTest, every_picture, full_tree, painted, some_pictures

from fourfold.errors import NoNumber, NoPicture
from fourfold.pictures import lean
from fourfold.shelves import Shelf

NESTED = (3, (((1, 2, 3, 4), 5, 5, 5), (1, 2, 3, 4), 5, ((1, 2, 3, 4), 5, 5, 5)))

# No number of any shelf.
NO_NUMBERS = [-1, -10, 10 ** 30, -10 ** 30, True, False, None]

NO_SIZES = [-1, 4, 5, 10 ** 30, True, False, None]


def parted_trees(tree):
    """All parts of a tree that are parted themselves, itself among them."""
    if not isinstance(tree, tuple):
        return set()
    return {tree}.union(*[parted_trees(part) for part in tree])


def all_trees(tree):
    if not isinstance(tree, tuple):
        return {tree}
    return {tree}.union(*[all_trees(part) for part in tree])


def depth(tree):
    return 1 + max(depth(part) for part in tree) if isinstance(tree, tuple) else 0


def shelf_of(pictures):
    shelf = Shelf()
    for picture in pictures:
        shelf.keep(picture)
    return shelf


def told_by(shelf):
    """All that a shelf tells."""
    numbers = range(10, 10 + shelf.many())
    return [shelf.many()] + [(shelf.parts(number), shelf.tree(number), shelf.used_by(number)) for number in numbers]


class TestKeep(PictureTest):
    def test_a_worth_has_its_own_number(self):
        shelf = Shelf()
        for worth in range(10):
            for size in range(4):
                self.assertEqual(shelf.keep((size, worth)), worth)
                self.assertEqual(shelf.keep((size, full_tree(size, worth))), worth)
        self.assertEqual(shelf.many(), 0)

    def test_numbers_from_10_on(self):
        shelf = Shelf()
        self.assertEqual(shelf.keep((1, (1, 2, 3, 4))), 10)
        self.assertEqual(shelf.many(), 1)
        self.assertEqual(shelf.keep((1, (1, 2, 4, 3))), 11)
        self.assertEqual(shelf.many(), 2)
        self.assertEqual(shelf.keep((2, ((1, 2, 4, 3), 0, 0, (1, 2, 3, 4)))), 12)
        self.assertEqual(shelf.many(), 3)

    def test_the_same_again(self):
        shelf = Shelf()
        number = shelf.keep(NESTED)
        self.assertEqual((number, shelf.many()), (12, 3))
        self.assertEqual(shelf.keep(NESTED), number)
        self.assertEqual(shelf.many(), 3)

    def test_of_unlike_sizes(self):
        shelf = Shelf()
        for size in (2, 1, 3):
            self.assertEqual(shelf.keep((size, (1, 2, 3, 4))), 10)
        self.assertEqual(shelf.many(), 1)

    def test_told_otherwise(self):
        shelf = Shelf()
        self.assertEqual(shelf.keep((3, ((1, 1, 1, 1), 2, full_tree(2, 3), 4))), 10)
        self.assertEqual(shelf.keep((1, (1, 2, 3, 4))), 10)
        self.assertEqual(shelf.many(), 1)
        self.assertEqual(shelf.parts(10), (1, 2, 3, 4))

    def test_parts_that_were_kept_before(self):
        shelf = Shelf()
        self.assertEqual(shelf.keep((1, (1, 2, 3, 4))), 10)
        self.assertEqual(shelf.keep(NESTED), 12)
        self.assertEqual(shelf.keep((2, ((1, 2, 3, 4), 5, 5, 5))), 11)

    def test_parts_of_a_picture_that_come_alone_later(self):
        shelf = Shelf()
        whole = shelf.keep(NESTED)
        part = shelf.keep((2, ((1, 2, 3, 4), 5, 5, 5)))
        small = shelf.keep((1, (1, 2, 3, 4)))
        self.assertEqual(sorted([whole, part, small]), [10, 11, 12])
        self.assertEqual(shelf.parts(whole), (part, small, 5, part))
        self.assertEqual(shelf.parts(part), (small, 5, 5, 5))
        self.assertEqual(shelf.parts(small), (1, 2, 3, 4))

    def test_four_alike_parts_that_are_parted(self):
        shelf = Shelf()
        number = shelf.keep((2, ((1, 2, 3, 4),) * 4))
        self.assertEqual(shelf.many(), 2)
        self.assertEqual(shelf.parts(number), (10, 10, 10, 10))

    def test_the_same_numbers_just_if_the_least_trees_are(self):
        shelf = Shelf()
        numbers = {}
        known = set()
        for picture in some_pictures(160) + every_picture(1, 3) + some_pictures(160):
            tree = lean(picture)[1]
            before = shelf.many()
            number = shelf.keep(picture)
            new = parted_trees(tree) - known
            known |= new
            self.assertEqual(shelf.many(), len(known))
            if tree in new:
                self.assertTrue(10 + before <= number < 10 + shelf.many())
            self.assertEqual(numbers.setdefault(tree, number), number)
            self.assertEqual(shelf.tree(number), tree)
        self.assertEqual(len(set(numbers.values())), len(numbers))
        self.assertEqual({shelf.tree(number) for number in range(10, 10 + shelf.many())}, known)

    def test_numbers_stay(self):
        shelf = Shelf()
        first = [shelf.keep(picture) for picture in some_pictures(40)]
        kept = told_by(shelf)
        for picture in some_pictures(120):
            shelf.keep(picture)
        self.assertGreater(shelf.many(), kept[0])
        self.assertEqual(told_by(shelf)[1:len(kept)], kept[1:])
        self.assertEqual([shelf.keep(picture) for picture in some_pictures(40)], first)


class TestParts(PictureTest):
    def test_numbers_of_the_quarters(self):
        shelf = Shelf()
        for picture in some_pictures(80):
            size, tree = lean(picture)
            number = shelf.keep(picture)
            if isinstance(tree, tuple):
                told = shelf.parts(number)
                self.assertIsInstance(told, tuple)
                self.assertEqual(told, tuple(shelf.keep((size - 1, part)) for part in tree))

    def test_worths_have_none(self):
        for shelf in (Shelf(), shelf_of([NESTED])):
            for worth in range(10):
                self.assertRaises(NoNumber, shelf.parts, worth)


class TestTree(PictureTest):
    def test_worths(self):
        for shelf in (Shelf(), shelf_of([NESTED])):
            for worth in range(10):
                self.assertEqual(shelf.tree(worth), worth)

    def test_the_least_tree(self):
        shelf = Shelf()
        self.assertEqual(shelf.tree(shelf.keep((2, ((3, 3, 3, 3), 3, (1, 2, 3, 4), 3)))), (3, 3, (1, 2, 3, 4), 3))
        self.assertEqual(shelf.tree(10), (1, 2, 3, 4))


class TestPicture(PictureTest):
    def test_worths_in_each_size(self):
        for worth, size in itertools.product(range(10), range(4)):
            self.assertEqual(Shelf().picture(size, worth), (size, worth))

    def test_as_large_as_it_may_be(self):
        shelf = Shelf()
        for picture in some_pictures(80):
            number = shelf.keep(picture)
            tree = lean(picture)[1]
            for size in range(4):
                if depth(tree) <= size:
                    told = shelf.picture(size, number)
                    self.assertEqual(told, (size, tree))
                    self.assert_shows(told, painted((size, tree)))
                else:
                    self.assertRaises(NoNumber, shelf.picture, size, number)
            self.assertEqual(shelf.picture(picture[0], number), lean(picture))

    def test_no_such_size(self):
        shelf = shelf_of([NESTED])
        for size, number in itertools.product(NO_SIZES, (0, 5, 9, 10, 11, 12, 13, -1)):
            self.assertRaises(NoNumber, shelf.picture, size, number)


class TestUsedBy(PictureTest):
    def test_worths(self):
        for shelf in (Shelf(), shelf_of([NESTED])):
            for worth in range(10):
                self.assertEqual(shelf.used_by(worth), [worth])

    def test_named(self):
        shelf = Shelf()
        shelf.keep((1, (9, 0, 9, 0)))
        shelf.keep(NESTED)
        self.assertEqual(shelf.used_by(10), [0, 9, 10])
        self.assertEqual(shelf.used_by(11), [1, 2, 3, 4, 11])
        self.assertEqual(shelf.used_by(12), [1, 2, 3, 4, 5, 11, 12])
        self.assertEqual(shelf.used_by(13), [1, 2, 3, 4, 5, 11, 12, 13])

    def test_all_parts(self):
        shelf = shelf_of(some_pictures(120))
        number_of = {shelf.tree(number): number for number in range(10 + shelf.many())}
        for number in range(10 + shelf.many()):
            told = shelf.used_by(number)
            self.assertIsInstance(told, list)
            self.assertEqual(told, sorted(number_of[tree] for tree in all_trees(shelf.tree(number))))

    def test_a_new_list_each_time(self):
        shelf = shelf_of([(1, (1, 2, 3, 4))])
        for number, numbers in ((10, [1, 2, 3, 4, 10]), (7, [7])):
            shelf.used_by(number).clear()
            self.assertEqual(shelf.used_by(number), numbers)


class TestRefusals(PictureTest):
    def test_numbers_that_are_none(self):
        for shelf in (Shelf(), shelf_of([(1, (1, 2, 3, 4))]), shelf_of(some_pictures())):
            beyond = 10 + shelf.many()
            for number in NO_NUMBERS + [beyond, beyond + 1, beyond + 10]:
                with self.subTest(number=number):
                    for call in (shelf.parts, shelf.tree, shelf.used_by):
                        self.assertRaises(NoNumber, call, number)
                    for size in range(4):
                        self.assertRaises(NoNumber, shelf.picture, size, number)

    def test_truths_are_no_numbers_though_1_is(self):
        shelf = Shelf()
        self.assertEqual(shelf.tree(1), 1)
        for call in (shelf.parts, shelf.tree, shelf.used_by):
            self.assertRaises(NoNumber, call, True)
        self.assertRaises(NoNumber, shelf.picture, True, 1)
        self.assertRaises(NoNumber, shelf.picture, 1, True)

    def test_things_that_are_no_picture(self):
        shelf = shelf_of(EACH_SIZE)
        for thing in NO_PICTURES:
            self.assertRaises(NoPicture, shelf.keep, thing)

    def test_a_shelf_behind_refusals(self):
        shelf = shelf_of(EACH_SIZE)
        kept = told_by(shelf)
        for thing in NO_PICTURES + [(2, ((6, 7, 8, 9), (6, 7, 8, 10), 0, 0)), (2, ((6, 7, 8, 9), 0, 0, None))]:
            self.assertRaises(NoPicture, shelf.keep, thing)
        for number in NO_NUMBERS:
            for call in (shelf.parts, shelf.tree, shelf.used_by):
                self.assertRaises(NoNumber, call, number)
            self.assertRaises(NoNumber, shelf.picture, 9, number)
        self.assertEqual(told_by(shelf), kept)
        self.assertEqual(shelf.keep((1, (6, 7, 8, 9))), 10 + kept[0])

    def test_asking_keeps_nothing(self):
        shelf = shelf_of([(1, (1, 2, 3, 4))])
        shelf.picture(3, 10)
        shelf.tree(10)
        shelf.used_by(10)
        self.assertEqual(shelf.many(), 1)


class TestTwoShelves(PictureTest):
    def test_beside_one_another(self):
        one = Shelf()
        other = Shelf()
        self.assertEqual(one.keep((1, (1, 2, 3, 4))), 10)
        self.assertEqual((one.many(), other.many()), (1, 0))
        self.assertRaises(NoNumber, other.tree, 10)
        self.assertEqual(other.keep((1, (5, 6, 7, 8))), 10)
        self.assertEqual(one.tree(10), (1, 2, 3, 4))
        self.assertEqual(other.tree(10), (5, 6, 7, 8))
        self.assertEqual(other.keep((1, (1, 2, 3, 4))), 11)
        self.assertEqual((one.many(), other.many()), (1, 2))

    def test_in_whatever_order_they_come(self):
        pictures = some_pictures(60)
        mixed = list(pictures)
        random.Random(3).shuffle(mixed)
        one = shelf_of(pictures)
        other = shelf_of(mixed)
        self.assertEqual(one.many(), other.many())
        self.assertEqual({one.tree(number) for number in range(10 + one.many())},
                         {other.tree(number) for number in range(10 + other.many())})
