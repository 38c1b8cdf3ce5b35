"""Painters, whose deeds can be undone and done again."""

from fourfold.edits import filled, put
from fourfold.errors import NothingDone
from fourfold.pictures import lean
from fourfold.turns import by_way


class Steps:
    # What was there step by step, and where among it one is: whoever puts a thing there doesn't change it later.
    def __init__(self, first):
        self.pages = [first]
        self.place = 0

    def here(self):
        return self.pages[self.place]

    def go_on(self, page):
        # What lies ahead is let go.
        self.place = self.place + 1
        self.pages = self.pages[:self.place] + [page]

    def back(self):
        if self.place == 0:
            raise NothingDone("there is nothing to take back")
        left = self.here()
        self.place = self.place - 1
        return left

    def forth(self):
        if self.place == len(self.pages) - 1:
            raise NothingDone("there is nothing to do again")
        self.place = self.place + 1
        return self.here()

    def marks(self):
        return (self.place, len(self.pages) - 1 - self.place)

    def twin(self):
        other = Steps(None)
        other.pages = list(self.pages)
        other.place = self.place
        return other


class Painter:
    def __init__(self, picture):
        self.steps = Steps(lean(picture))

    def shown(self):
        return self.steps.here()

    def fill(self, box, worth):
        self.steps.go_on(filled(self.shown(), box, worth))

    def dot(self, x, y, worth):
        self.steps.go_on(put(self.shown(), x, y, worth))

    def turn(self, way):
        self.steps.go_on(by_way(self.shown(), way))

    def undo(self):
        self.steps.back()

    def redo(self):
        self.steps.forth()

    def many(self):
        return self.steps.marks()
