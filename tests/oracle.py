"""What the document says of rows, written as plainly as can be and apart from the program."""

from itertools import product

FIGURES = (-1, 0, 1, 2)


def rows_up_to(length):
    for size in range(length + 1):
        for row in product(FIGURES, repeat=size):
            yield list(row)


def worth_by_powers(row):
    return sum(figure * 2 ** place for place, figure in enumerate(row))


def parted(row, figure, parts):
    places = [place for place, found in enumerate(row) if found == figure]
    return all(
        any(parts(between) for between in row[low + 1:high])
        for low in places for high in places if low < high
    )


def calm_by_pairs(row):
    if any(figure not in FIGURES for figure in row):
        return False
    if row and row[-1] == 0:
        return False
    return parted(row, 2, lambda f: f < 1) and parted(row, -1, lambda f: f > 0)


def settled_by_ends(row):
    for unread in range(len(row), -1, -1):
        total = worth_by_powers(row[unread:])
        if total > 0:
            return (1, unread)
        if total < -1:
            return (-1, unread)
    return (worth_by_powers(row), 0)


def calm_rows_up_to(length):
    return [row for row in rows_up_to(length) if calm_by_pairs(row)]


def at(row, place):
    return row[place] if place < len(row) else 0


def adding_by_words(row, place):
    """Point [6], sentence by sentence: a dict of the figures behind the deed, by their places."""
    behind = {}
    figure = at(row, place)
    if figure == 2:
        behind[place] = 1
        behind[place + 1] = at(row, place + 1) + 1
    elif figure == -1:
        behind[place] = 0
    else:
        behind[place] = figure + 1
        above = next(p for p in range(place + 1, place + len(row) + 2) if at(row, p) != 1)
        if at(row, above) == 2:
            behind[above] = 0
            behind[above + 1] = at(row, above + 1) + 1
        below = [p for p in range(place - 1, -1, -1) if at(row, p) != 1]
        if figure == 1 and below and at(row, below[0]) == 2:
            behind[place] = 0
            behind[place + 1] = at(row, place + 1) + 1
    return behind


def taking_by_words(row, place):
    """Point [7], sentence by sentence, without the mirror."""
    behind = {}
    figure = at(row, place)
    if figure == -1:
        behind[place] = 0
        behind[place + 1] = at(row, place + 1) - 1
    elif figure == 2:
        behind[place] = 1
    else:
        behind[place] = figure - 1
        above = [p for p in range(place + 1, len(row)) if at(row, p) != 0]
        if above and at(row, above[0]) == -1:
            behind[above[0]] = 1
            behind[above[0] + 1] = at(row, above[0] + 1) - 1
        below = [p for p in range(place - 1, -1, -1) if at(row, p) != 0]
        if figure == 0 and below and at(row, below[0]) == -1:
            behind[place] = 1
            behind[place + 1] = at(row, place + 1) - 1
    return behind


def changes_by_words(row, place, up):
    behind = adding_by_words(row, place) if up else taking_by_words(row, place)
    return [(p, at(row, p), behind[p]) for p in sorted(behind) if behind[p] != at(row, p)]


def put_by_words(row, some):
    behind = {place: figure for place, before, figure in some}
    last = max([len(row) - 1] + list(behind))
    made = [behind.get(place, at(row, place)) for place in range(last + 1)]
    while made and made[-1] == 0:
        made = made[:-1]
    return made


def joined_by_words(one, other):
    made = list(one)
    for place, figure in enumerate(other):
        deeds = {2: (True, True), 1: (True,), 0: (), -1: (False,)}[figure]
        for up in deeds:
            made = put_by_words(made, changes_by_words(made, place, up))
    return made


def drawn_row(source, length, weights=(1, 1, 1, 1)):
    """A calm row of so many figures, at least one; `source` is a random.Random, `weights` go with FIGURES."""
    row = []
    two_fits = minus_fits = True
    while len(row) < length:
        figure = source.choices(FIGURES, weights)[0]
        if len(row) == length - 1 and figure == 0:
            figure = 1
        if (figure == 2 and not two_fits) or (figure == -1 and not minus_fits):
            continue
        two_fits = figure < 1 or (two_fits and figure == 1)
        minus_fits = figure > 0 or (minus_fits and figure == 0)
        row.append(figure)
    return row
