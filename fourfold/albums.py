"""Albums: pictures by names, which go back and forth, and their texts."""

from fourfold.errors import NoName, NoText
from fourfold.painters import Steps
from fourfold.pictures import lean
from fourfold.rules import check_rule, joined
from fourfold.texts import check_text, picture_text, read_picture
from fourfold.turns import by_way

LETTERS = "abcdefghijklmnopqrstuvwxyz"
LONGEST_NAME = 5


def is_name(thing):
    if not isinstance(thing, str) or not 1 <= len(thing) <= LONGEST_NAME:
        return False
    return all([sign in LETTERS for sign in thing])


def check_name(thing):
    if not is_name(thing):
        raise NoName("a name is a text of 1 to 5 letters a to z")


class Album:
    def __init__(self):
        self.begin({})

    def begin(self, held):
        # Each step is the word of the deed and the pictures by name behind it.
        self.steps = Steps(("", held))

    def pictures(self):
        return self.steps.here()[1]

    def go_on(self, word, name, picture):
        # Set in a copy, as the steps before and twins hold the dict that is there.
        held = dict(self.pictures())
        held[name] = picture
        self.steps.go_on((word, held))

    def put(self, name, picture):
        told = lean(picture)
        check_name(name)
        had = name in self.pictures()
        self.go_on("put", name, told)
        return had

    def picture_of(self, name):
        if not is_name(name) or name not in self.pictures():
            raise NoName("no picture has this name")
        return self.pictures()[name]

    def take(self, name):
        told = self.picture_of(name)
        held = dict(self.pictures())
        held.pop(name)
        self.steps.go_on(("take", held))
        return told

    def join(self, name, rule, one, other):
        check_rule(rule)
        check_name(name)
        told = joined(rule, self.picture_of(one), self.picture_of(other))
        self.go_on("join", name, told)
        return told

    def move(self, name, way):
        told = by_way(self.picture_of(name), way)
        self.go_on("move", name, told)
        return told

    def names(self):
        return sorted(self.pictures())

    def same_as(self, name):
        told = self.picture_of(name)
        return [other for other in self.names() if other != name and self.picture_of(other) == told]

    def back(self):
        return self.steps.back()[0]

    def forth(self):
        return self.steps.forth()[0]

    def marks(self):
        return self.steps.marks()

    def twin(self):
        other = Album()
        other.steps = self.steps.twin()
        return other


def line_of(album, name):
    told = picture_text(album.picture_of(name))
    return f"{name}={told}\n"


def album_text(album):
    return "".join([line_of(album, name) for name in album.names()])


def read_pictures(text):
    held = {}
    for line in text.split("\n")[:-1]:
        told = line.partition("=")
        if not is_name(told[0]):
            raise NoText("a line begins with a name")
        held[told[0]] = lean(read_picture(told[2]))
    return held


def read_album(text):
    check_text(text)
    album = Album()
    album.begin(read_pictures(text))
    # Lines in another order or told twice, other forms and what stands behind the last line are seen by writing it.
    if album_text(album) != text:
        raise NoText("no album is written so")
    return album
