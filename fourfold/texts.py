"""Pictures and their rows written as texts, and read back."""

from fourfold.errors import NoText
from fourfold.pictures import are_rows, check_picture, of_rows, shown_rows
from fourfold.trees import is_size

FIGURES = "0123456789"


def tree_text(tree):
    if not isinstance(tree, tuple):
        return str(tree)
    return "(" + "".join([tree_text(part) for part in tree]) + ")"


def picture_text(picture):
    check_picture(picture)
    size = picture[0]
    told = tree_text(picture[1])
    return f"{size}:{told}"


def row_text(row):
    return "".join([str(worth) for worth in row]) + "\n"


def rows_text(picture):
    return "".join([row_text(row) for row in shown_rows(picture)])


def check_text(thing):
    if not isinstance(thing, str):
        raise NoText("this is no text")


def figure_in(sign):
    # An empty sign, as behind a text's end, would be found in any text.
    return FIGURES.find(sign) if sign != "" else -1


# Told are the tree that is written from a place on, and the place behind it.
def read_tree(text, place, size):
    sign = text[place:place + 1]
    worth = figure_in(sign)
    if worth >= 0:
        return (worth, place + 1)
    # Asked on the way down, so that no text leads deeper than a picture goes.
    if sign != "(" or size == 0:
        raise NoText("no tree of this size is written so")
    return read_quarters(text, place + 1, size - 1)


def read_quarters(text, place, size):
    parts = []
    for step in range(4):
        told = read_tree(text, place, size)
        parts.append(told[0])
        place = told[1]
    if text[place:place + 1] != ")":
        raise NoText("four quarters end with a bracket")
    return (tuple(parts), place + 1)


def read_picture(text):
    check_text(text)
    size = figure_in(text[:1])
    if not is_size(size) or text[1:2] != ":":
        raise NoText("a picture begins with its size and a colon")
    told = read_tree(text, 2, size)
    if told[1] != len(text):
        raise NoText("more is written than a picture")
    return (size, told[0])


def read_row(line):
    return tuple([figure_in(sign) for sign in line])


def read_rows(text):
    check_text(text)
    lines = text.split("\n")
    rows = tuple([read_row(line) for line in lines[:-1]])
    # Each line is ended, so nothing stands behind the last line feed.
    if lines[-1] != "" or not are_rows(rows):
        raise NoText("no rows of a picture are written so")
    return of_rows(rows)
