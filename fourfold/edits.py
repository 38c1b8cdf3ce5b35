"""Pictures changed in boxes, at spots and by quarters."""

from fourfold.errors import BadBox, NoSpot, Unlike
from fourfold.pictures import check_picture, check_spot, check_worth, lean, of_rows, shown_rows, side_of
from fourfold.sizes import check_quarter, is_quarter, quarter_of
from fourfold.trees import is_whole, lean_tree, quarters_in


def is_span(start, length, side):
    return 0 <= start and 1 <= length and start + length <= side


def is_box(picture, thing):
    if not isinstance(thing, tuple) or len(thing) != 4:
        return False
    if not all([is_whole(number) for number in thing]):
        return False
    side = side_of(picture)
    return is_span(thing[0], thing[2], side) and is_span(thing[1], thing[3], side)


def check_box(picture, thing):
    if not is_box(picture, thing):
        raise BadBox("the picture has no such box")


def filled_row(row, left, width, worth):
    return row[:left] + (worth,) * width + row[left + width:]


def filled(picture, box, worth):
    check_picture(picture)
    check_box(picture, box)
    check_worth(worth)
    rows = list(shown_rows(picture))
    for y in range(box[1], box[1] + box[3]):
        rows[y] = filled_row(rows[y], box[0], box[2], worth)
    return of_rows(tuple(rows))


def put(picture, x, y, worth):
    check_picture(picture)
    check_spot(picture, x, y)
    return filled(picture, (x, y, 1, 1), worth)


def with_quarter(picture, number, other):
    check_picture(picture)
    check_picture(other)
    check_quarter(picture, number)
    if other[0] != picture[0] - 1:
        raise Unlike("the quarter is of a size that is one less")
    parts = list(quarters_in(picture[1]))
    parts[number] = other[1]
    return (picture[0], lean_tree(tuple(parts)))


def cut_out(picture, number, times):
    # All is asked ahead of the first cut, so that the number is refused with 0 times, too.
    check_picture(picture)
    if not is_quarter(number) or not is_whole(times) or not 0 <= times <= picture[0]:
        raise NoSpot("the picture has no such quarter so deep")
    part = lean(picture)
    for step in range(times):
        part = quarter_of(part, number)
    return part
