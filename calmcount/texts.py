"""Texts: calm rows written, and read again."""

from calmcount.errors import NoText
from calmcount.rows import is_calm, refuse_if_not_calm

# The signs of -1, 0, 1 and 2, in this order: each stands one place above its figure.
SIGNS = "-012"


def shown(row):
    refuse_if_not_calm(row)
    if len(row) == 0:
        return "0"
    return "".join([SIGNS[figure + 1] for figure in reversed(row)])


def figures_of(text):
    row = []
    for sign in reversed(text):
        if sign not in SIGNS:
            raise NoText("a text has the signs 2, 1, 0 and - alone")
        row.append(SIGNS.index(sign) - 1)
    return row


def read(text):
    if text == "0":
        return []
    if text == "":
        raise NoText("the empty text writes no row")
    row = figures_of(text)
    if not is_calm(row):
        raise NoText("this text writes no calm row")
    return row
