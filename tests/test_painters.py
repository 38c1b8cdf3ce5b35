import itertools
import random

from samples import (EACH_SIZE, NO_BOXES, NO_PICTURES, NO_WORTHS, PictureTest, boxes_beyond, full_tree, painted,
                     rows_by_way, some_pictures)

from fourfold.errors import BadBox, NoPicture, NoSpot, NothingDone
from fourfold.painters import Painter
from fourfold.pictures import lean

NO_WAYS = [-1, 8, 9, 10 ** 30, -10 ** 30, True, False]


def filled_rows(rows, box, worth):
    left, top, width, height = box
    told = list(map(list, rows))
    for x, y in itertools.product(range(left, left + width), range(top, top + height)):
        told[y][x] = worth
    return tuple(map(tuple, told))


def some_deed(source, side):
    """The name of a deed, what it takes, and what it makes of rows."""
    kind = source.choice(("fill", "dot", "turn"))
    worth = source.randrange(10)
    left, top = source.randrange(side), source.randrange(side)
    if kind == "fill":
        box = (left, top, source.randint(1, side - left), source.randint(1, side - top))
        return kind, (box, worth), lambda rows: filled_rows(rows, box, worth)
    if kind == "dot":
        return kind, (left, top, worth), lambda rows: filled_rows(rows, (left, top, 1, 1), worth)
    way = source.randrange(8)
    return kind, (way,), lambda rows: rows_by_way(rows, way)


class PainterTest(PictureTest):
    def assert_stands(self, painter, rows, many):
        self.assert_shows(painter.shown(), rows)
        self.assertEqual(painter.many(), many)
        self.assertIsInstance(painter.many(), tuple)

    def assert_nothing_refused_changes(self, painter):
        """That all refusals are there, and the painter is behind them as it was."""
        shown, many = painter.shown(), painter.many()
        side = len(painted(shown))
        for box in NO_BOXES + boxes_beyond(side):
            self.assertRaises(BadBox, painter.fill, box, 1)
            self.assertRaises(BadBox, painter.fill, box, 10)
        for worth in NO_WORTHS:
            self.assertRaises(NoPicture, painter.fill, (0, 0, 1, 1), worth)
            self.assertRaises(NoPicture, painter.dot, 0, 0, worth)
            self.assertRaises(NoSpot, painter.dot, side, 0, worth)
        for x, y in ((-1, 0), (0, -1), (side, 0), (0, side), (10 ** 30, 0), (True, 0), (0, False)):
            self.assertRaises(NoSpot, painter.dot, x, y, 1)
        for way in NO_WAYS:
            self.assertRaises(NoSpot, painter.turn, way)
        if many[0] == 0:
            self.assertRaises(NothingDone, painter.undo)
        if many[1] == 0:
            self.assertRaises(NothingDone, painter.redo)
        self.assertEqual((painter.shown(), painter.many()), (shown, many))


class TestNew(PainterTest):
    def test_shows_the_least_form(self):
        for picture in some_pictures():
            self.assert_stands(Painter(picture), painted(picture), (0, 0))
            self.assertEqual(Painter(picture).shown(), lean(picture))
        self.assertEqual(Painter((3, full_tree(3, 4))).shown(), (3, 4))

    def test_of_no_picture(self):
        for thing in NO_PICTURES:
            self.assertRaises(NoPicture, Painter, thing)

    def test_there_is_nothing_to_undo(self):
        for picture in EACH_SIZE:
            painter = Painter(picture)
            self.assertRaises(NothingDone, painter.undo)
            self.assertRaises(NothingDone, painter.redo)
            self.assert_stands(painter, painted(picture), (0, 0))


class TestDeeds(PainterTest):
    def test_named(self):
        painter = Painter((1, (1, 2, 3, 4)))
        self.assertIsNone(painter.fill((0, 0, 2, 1), 5))
        self.assertEqual((painter.shown(), painter.many()), ((1, (5, 5, 3, 4)), (1, 0)))
        self.assertIsNone(painter.dot(0, 1, 6))
        self.assertEqual((painter.shown(), painter.many()), ((1, (5, 5, 6, 4)), (2, 0)))
        self.assertIsNone(painter.turn(1))
        self.assertEqual((painter.shown(), painter.many()), ((1, (6, 5, 4, 5)), (3, 0)))
        self.assertIsNone(painter.undo())
        self.assertEqual((painter.shown(), painter.many()), ((1, (5, 5, 6, 4)), (2, 1)))
        self.assertIsNone(painter.undo())
        self.assertEqual((painter.shown(), painter.many()), ((1, (5, 5, 3, 4)), (1, 2)))
        self.assertIsNone(painter.redo())
        self.assertEqual((painter.shown(), painter.many()), ((1, (5, 5, 6, 4)), (2, 1)))

    def test_each_kind_undone_and_done_again(self):
        for picture in EACH_SIZE:
            rows = painted(picture)
            side = len(rows)
            deeds = [("fill", ((0, 0, side, 1), worth), filled_rows(rows, (0, 0, side, 1), worth)) for worth in range(10)]
            deeds += [("dot", (side - 1, 0, worth), filled_rows(rows, (side - 1, 0, 1, 1), worth)) for worth in range(10)]
            deeds += [("turn", (way,), rows_by_way(rows, way)) for way in range(8)]
            for name, taken, behind in deeds:
                painter = Painter(picture)
                self.assertIsNone(getattr(painter, name)(*taken))
                self.assert_stands(painter, behind, (1, 0))
                self.assertRaises(NothingDone, painter.redo)
                self.assertIsNone(painter.undo())
                self.assert_stands(painter, rows, (0, 1))
                self.assertRaises(NothingDone, painter.undo)
                self.assertIsNone(painter.redo())
                self.assert_stands(painter, behind, (1, 0))

    def test_deeds_that_change_nothing_to_look_at(self):
        painter = Painter((2, 5))
        painter.fill((0, 0, 4, 4), 5)
        painter.dot(3, 3, 5)
        painter.turn(0)
        painter.turn(6)
        self.assertEqual((painter.shown(), painter.many()), ((2, 5), (4, 0)))
        for step in range(4):
            painter.undo()
            self.assertEqual((painter.shown(), painter.many()), ((2, 5), (3 - step, step + 1)))
        self.assertRaises(NothingDone, painter.undo)

    def test_a_deed_that_changes_nothing_lets_go_what_was_undone(self):
        painter = Painter((2, 5))
        painter.dot(0, 0, 6)
        painter.undo()
        painter.turn(0)
        self.assertEqual(painter.many(), (1, 0))
        self.assertRaises(NothingDone, painter.redo)
        painter.undo()
        self.assertEqual((painter.shown(), painter.many()), ((2, 5), (0, 1)))

    def test_a_new_deed_behind_what_was_undone(self):
        painter = Painter((0, 0))
        for worth in (1, 2, 3):
            painter.dot(0, 0, worth)
        painter.undo()
        painter.undo()
        painter.dot(0, 0, 9)
        self.assertEqual((painter.shown(), painter.many()), ((0, 9), (2, 0)))
        self.assertRaises(NothingDone, painter.redo)
        shown = []
        while painter.many()[0]:
            painter.undo()
            shown.append(painter.shown())
        self.assertEqual(shown, [(0, 1), (0, 0)])
        painter.redo()
        painter.redo()
        self.assertEqual((painter.shown(), painter.many()), ((0, 9), (2, 0)))


class TestLongRuns(PainterTest):
    def test_all_undone_and_done_again(self):
        source = random.Random(12)
        for picture in EACH_SIZE + some_pictures(8):
            painter = Painter(picture)
            seen = [painted(picture)]
            for _ in range(20):
                name, taken, make = some_deed(source, len(seen[0]))
                getattr(painter, name)(*taken)
                seen.append(make(seen[-1]))
                self.assert_stands(painter, seen[-1], (len(seen) - 1, 0))
            for place in reversed(range(20)):
                painter.undo()
                self.assert_stands(painter, seen[place], (place, 20 - place))
            for place in range(1, 21):
                painter.redo()
                self.assert_stands(painter, seen[place], (place, 20 - place))

    def test_deeds_steps_and_refusals_mixed(self):
        source = random.Random(13)
        for picture in EACH_SIZE:
            painter = Painter(picture)
            undone, done = [], [painted(picture)]
            for step in range(120):
                move = source.randrange(4)
                if move == 0 and len(done) > 1:
                    self.assertIsNone(painter.undo())
                    undone.append(done.pop())
                elif move == 1 and undone:
                    self.assertIsNone(painter.redo())
                    done.append(undone.pop())
                elif move > 1:
                    name, taken, make = some_deed(source, len(done[0]))
                    self.assertIsNone(getattr(painter, name)(*taken))
                    done.append(make(done[-1]))
                    undone = []
                self.assert_stands(painter, done[-1], (len(done) - 1, len(undone)))
                if step % 10 == 0:
                    self.assert_nothing_refused_changes(painter)


class TestRefusals(PainterTest):
    def test_they_change_nothing(self):
        for picture in EACH_SIZE:
            painter = Painter(picture)
            self.assert_nothing_refused_changes(painter)
            painter.dot(0, 0, 7)
            painter.turn(1)
            self.assert_nothing_refused_changes(painter)
            painter.undo()
            self.assert_nothing_refused_changes(painter)
            painter.redo()
            self.assertEqual(painter.many(), (2, 0))
            painter.undo()
            painter.undo()
            self.assert_nothing_refused_changes(painter)
            self.assert_stands(painter, painted(picture), (0, 2))

    def test_two_painters_go_by_themselves(self):
        picture = (1, (1, 2, 3, 4))
        one, other = Painter(picture), Painter(picture)
        one.dot(0, 0, 9)
        self.assertEqual((one.shown(), other.shown()), ((1, (9, 2, 3, 4)), picture))
        self.assertEqual((one.many(), other.many()), ((1, 0), (0, 0)))
        other.turn(1)
        one.undo()
        self.assertEqual((one.shown(), other.shown()), (picture, (1, (3, 1, 4, 2))))
