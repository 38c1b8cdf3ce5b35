"""What worths the boxes, rows and columns of a picture have, and how many."""

from fourfold.edits import check_box
from fourfold.pictures import check_picture, shown_rows
from fourfold.trees import GREATEST_WORTH, is_worth
from fourfold.turns import swapped


def worths_of(rows):
    worths = []
    for row in rows:
        worths.extend(row)
    return worths


def boxed_worths(picture, box):
    check_picture(picture)
    check_box(picture, box)
    rows = shown_rows(picture)[box[1]:box[1] + box[3]]
    return worths_of([row[box[0]:box[0] + box[2]] for row in rows])


def sum_in(picture, box):
    return sum(boxed_worths(picture, box))


def least_in(picture, box):
    return min(boxed_worths(picture, box))


def greatest_in(picture, box):
    return max(boxed_worths(picture, box))


def count_in(picture, box, worth):
    worths = boxed_worths(picture, box)
    # Truths equal 0 and 1 to Python, but no spot has what is no worth.
    return worths.count(worth) if is_worth(worth) else 0


def is_plain(picture, box):
    return least_in(picture, box) == greatest_in(picture, box)


def total(picture):
    return sum(worths_of(shown_rows(picture)))


def counts(picture):
    worths = worths_of(shown_rows(picture))
    return tuple([worths.count(worth) for worth in range(GREATEST_WORTH + 1)])


def sums_across(picture):
    return [sum(row) for row in shown_rows(picture)]


def sums_down(picture):
    return sums_across(swapped(picture))


def first_spot(picture, worth):
    rows = shown_rows(picture)
    # As in count_in: a truth is found nowhere.
    if not is_worth(worth):
        return None
    for y, row in enumerate(rows):
        if worth in row:
            return (row.index(worth), y)
    return None
