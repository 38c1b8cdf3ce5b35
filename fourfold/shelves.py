"""Shelves, which keep each part of the pictures that are put there once."""

from fourfold.errors import NoNumber
from fourfold.pictures import lean
from fourfold.trees import depth_in, is_size, is_whole, is_worth

# The numbers below are those of the worths.
FIRST_NUMBER = 10


class Shelf:
    def __init__(self):
        # The same twice, so that both the number of four and the four of a number are found at once.
        self.fours = []
        self.numbers = {}

    def keep(self, picture):
        return self.keep_tree(lean(picture)[1])

    def keep_tree(self, told):
        if not isinstance(told, tuple):
            return told
        four = tuple([self.keep_tree(part) for part in told])
        if four not in self.numbers:
            self.numbers[four] = FIRST_NUMBER + self.many()
            self.fours.append(four)
        return self.numbers[four]

    def many(self):
        return len(self.fours)

    def parts(self, number):
        if not is_whole(number) or not FIRST_NUMBER <= number < FIRST_NUMBER + self.many():
            raise NoNumber("the shelf has no parts of such a number")
        return self.fours[number - FIRST_NUMBER]

    def tree(self, number):
        if is_worth(number):
            return number
        return tuple([self.tree(part) for part in self.parts(number)])

    def picture(self, size, number):
        told = self.tree(number)
        if not is_size(size) or depth_in(told) > size:
            raise NoNumber("the number has no picture of this size")
        return (size, told)

    def used_by(self, number):
        if is_worth(number):
            return [number]
        used = [number]
        for part in self.parts(number):
            used.extend(self.used_by(part))
        return sorted(set(used))
