"""Rows of figures: their worth, whether they are calm, plain rows, and a row's sign."""

from calmcount.errors import NotCalm


# True and False are ints to Python, but no whole numbers here.
def is_whole(value):
    return isinstance(value, int) and not isinstance(value, bool)


def is_figure(value):
    return is_whole(value) and -1 <= value <= 2


def worth(row):
    total = 0
    for figure in reversed(row):
        total = 2 * total + figure
    return total


# It is enough to look at each 2 and the next one: what lies between them lies between any two around them.
def twos_are_apart(row):
    open_two = False
    for figure in row:
        if figure == 2 and open_two:
            return False
        if figure == 2:
            open_two = True
        elif figure < 1:
            open_two = False
    return True


# In the mirror -1 stands for 2 and what is above 0 for what is below 1, so the rule of the 2s holds for the -1s.
def mirrored(row):
    return [1 - figure for figure in row]


def is_calm(row):
    for figure in row:
        if not is_figure(figure):
            return False
    if len(row) > 0 and row[-1] == 0:
        return False
    return twos_are_apart(row) and twos_are_apart(mirrored(row))


def refuse_if_not_calm(row):
    if not is_calm(row):
        raise NotCalm("this is no calm row")


# Halving rounds down, so a number below 0 comes to -1 just at the least place whose power of two is large enough.
def plain(number):
    row = []
    rest = number
    while rest != 0 and rest != -1:
        row.append(rest % 2)
        rest = rest // 2
    if rest == -1:
        row.append(-1)
    return row


def settled(row):
    refuse_if_not_calm(row)
    total = 0
    unread = len(row)
    for figure in reversed(row):
        total = 2 * total + figure
        unread = unread - 1
        if total > 0:
            return (1, unread)
        if total < -1:
            return (-1, unread)
    # Only 0 and -1 come to here, and each of them is its own sign.
    return (total, 0)
