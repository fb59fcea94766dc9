"""Counters: a row that deeds are done to, and undone."""

from calmcount.errors import NothingDone
from calmcount.rows import worth
from calmcount.steps import put, refuse_if_no_place, step, turned_back


class Counter:
    def __init__(self):
        self.row = []
        self.deeds = []

    def add(self, place):
        return self.carry_out(place, True)

    def take(self, place):
        return self.carry_out(place, False)

    def carry_out(self, place, up):
        refuse_if_no_place(place)
        some = step(self.row, place, up)
        self.row = put(self.row, some)
        self.deeds.append(some)
        # The asker's own copy: undoing hangs on the one kept here.
        return list(some)

    def undo(self):
        if len(self.deeds) == 0:
            raise NothingDone("no deed is left to undo")
        some = turned_back(self.deeds.pop())
        self.row = put(self.row, some)
        return some

    def figures(self):
        return list(self.row)

    def amount(self):
        return worth(self.row)

    def many(self):
        return len(self.deeds)
