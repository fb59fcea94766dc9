"""What the document says of rows, written as plainly as can be and apart from the program."""

from itertools import product

FIGURES = (-1, 0, 1, 2)


def rows_up_to(length):
    for size in range(length + 1):
        for row in product(FIGURES, repeat=size):
            yield list(row)


def worth_by_powers(row):
    return sum(figure * 2 ** place for place, figure in enumerate(row))


def parted(row, figure, parts):
    places = [place for place, found in enumerate(row) if found == figure]
    return all(
        any(parts(between) for between in row[low + 1:high])
        for low in places for high in places if low < high
    )


def calm_by_pairs(row):
    if any(figure not in FIGURES for figure in row):
        return False
    if row and row[-1] == 0:
        return False
    return parted(row, 2, lambda f: f < 1) and parted(row, -1, lambda f: f > 0)


def settled_by_ends(row):
    for unread in range(len(row), -1, -1):
        total = worth_by_powers(row[unread:])
        if total > 0:
            return (1, unread)
        if total < -1:
            return (-1, unread)
    return (worth_by_powers(row), 0)
