"""Steps: what adding or taking at a place changes, changes put to a row and turned back, and two rows joined."""

from calmcount.errors import NoPlace
from calmcount.rows import is_whole, refuse_if_not_calm

LAST_PLACE = 399


def refuse_if_no_place(place):
    if not is_whole(place) or place < 0 or place > LAST_PLACE:
        raise NoPlace("a place is a whole number from 0 to 399")


# Taking is adding in the mirror, and the mirror of the mirror is the figure itself: one rule serves both, both ways.
def mirror(figure, up):
    return figure if up else 1 - figure


def figure_at(row, place):
    return row[place] if place < len(row) else 0


def seen(row, place, up):
    return mirror(figure_at(row, place), up)


# At the row's end one may stop: neither a 0 beyond it nor its mirror is a 2.
def first_above(row, place, up):
    above = place + 1
    while above < len(row) and seen(row, above, up) == 1:
        above = above + 1
    return above


def finds_two_below(row, place, up):
    below = place - 1
    while below >= 0 and seen(row, below, up) == 1:
        below = below - 1
    return below >= 0 and seen(row, below, up) == 2


def grown(row, place, up):
    return (place, seen(row, place, up) + 1)


# The places that a deed changes, each with its figure behind the deed, as the mirror shows it.
def figures_behind(row, place, up):
    figure = seen(row, place, up)
    if figure == 2:
        return [(place, 1), grown(row, place + 1, up)]
    if figure == -1:
        return [(place, 0)]
    if figure == 1 and finds_two_below(row, place, up):
        return [(place, 0), grown(row, place + 1, up)]
    above = first_above(row, place, up)
    if seen(row, above, up) == 2:
        return [(place, figure + 1), (above, 0), grown(row, above + 1, up)]
    return [(place, figure + 1)]


# Without refusals: for rows known to be calm, and for the places of a row that is longer than the places go.
def step(row, place, up):
    return [(at, figure_at(row, at), mirror(behind, up)) for at, behind in figures_behind(row, place, up)]


def changes(row, place, up=True):
    refuse_if_no_place(place)
    refuse_if_not_calm(row)
    return step(row, place, up)


def put(row, some):
    made = list(row)
    for place, before, behind in some:
        while len(made) <= place:
            made.append(0)
        made[place] = behind
    while len(made) > 0 and made[-1] == 0:
        made.pop()
    return made


def turned_back(some):
    return [(place, behind, before) for place, before, behind in some]


def added(row, place):
    return put(row, changes(row, place, True))


def taken(row, place):
    return put(row, changes(row, place, False))


# A figure calls for as many deeds as it is far from 0.
def joined(one, other):
    refuse_if_not_calm(one)
    refuse_if_not_calm(other)
    made = list(one)
    for place, figure in enumerate(other):
        for turn in range(abs(figure)):
            made = put(made, step(made, place, figure > 0))
    return made
