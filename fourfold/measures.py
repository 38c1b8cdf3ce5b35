"""What worths and rows of pictures have, and pictures rolled and framed."""

from fourfold.edits import filled
from fourfold.pictures import check_picture, check_spot, check_worth, of_rows, shown_rows, side_of
from fourfold.sums import worths_of
from fourfold.turns import swapped


def worths_in(picture):
    return sorted(set(worths_of(shown_rows(picture))))


def rows_with(picture, worth):
    return [y for y, row in enumerate(shown_rows(picture)) if worth in row]


def box_of(picture, worth):
    check_picture(picture)
    check_worth(worth)
    down = rows_with(picture, worth)
    if len(down) == 0:
        return None
    across = rows_with(swapped(picture), worth)
    return (across[0], down[0], across[-1] - across[0] + 1, down[-1] - down[0] + 1)


def runs_in(picture, y):
    check_picture(picture)
    check_spot(picture, 0, y)
    runs = []
    for worth in shown_rows(picture)[y]:
        if len(runs) > 0 and runs[-1][0] == worth:
            runs[-1] = (worth, runs[-1][1] + 1)
        else:
            runs.append((worth, 1))
    return runs


def like_rows(picture):
    rows = shown_rows(picture)
    couples = []
    for y, row in enumerate(rows):
        couples.extend([(y, other) for other in range(y + 1, len(rows)) if rows[other] == row])
    return couples


def rolled_on(things, by):
    many = len(things)
    return tuple([things[(place - by) % many] for place in range(many)])


def rolled(picture, right, down):
    rows = rolled_on(shown_rows(picture), down)
    return of_rows(tuple([rolled_on(row, right) for row in rows]))


def framed(picture, worth):
    check_picture(picture)
    last = side_of(picture) - 1
    told = picture
    for edge in [(0, 0, last + 1, 1), (0, last, last + 1, 1), (0, 0, 1, last + 1), (last, 0, 1, last + 1)]:
        told = filled(told, edge, worth)
    return told
