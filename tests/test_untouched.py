"""Over the whole program: what is handed in stays the same, and what is told is the asker's own."""

import unittest

from calmcount.counter import Counter
from calmcount.errors import CountError
from calmcount.rows import is_calm, plain, settled, worth
from calmcount.steps import added, changes, joined, put, taken, turned_back
from calmcount.texts import read, shown
from oracle import calm_rows_up_to, rows_up_to

SOME = ([], [(0, 1, 2)], [(0, 0, 1), (3, 2, 0), (4, -1, 0)], [(500, 1, 0)])


def asks_of_a_row():
    asks = [worth, is_calm, settled, shown]
    asks += [lambda row, place=place: added(row, place) for place in (0, 1, 4, 399)]
    asks += [lambda row, place=place: taken(row, place) for place in (0, 1, 4, 399)]
    for up in (True, False):
        asks += [lambda row, place=place, up=up: changes(row, place, up) for place in (0, 1, 4, 399, 400)]
    asks += [lambda row: joined(row, [1, 2]), lambda row: joined([1, 2], row), lambda row: joined(row, row)]
    asks += [lambda row, some=some: put(row, some) for some in SOME]
    return asks


class UntouchedTest(unittest.TestCase):
    def test_rows_handed_in(self):
        asks = asks_of_a_row()
        for row in list(rows_up_to(4)) + [[3, 0], [1, -2, 1], [0] * 500, [1] * 500, [2, -1] * 200]:
            kept = list(row)
            for ask in asks:
                try:
                    ask(row)
                except CountError:
                    pass
                self.assertEqual(row, kept)

    def test_changes_handed_in(self):
        for some in SOME:
            kept = list(some)
            for row in rows_up_to(3):
                put(row, some)
            turned_back(some)
            self.assertEqual(some, kept)

    def test_what_the_asker_does_to_a_list_told_changes_nothing(self):
        asks = [lambda: plain(5), lambda: plain(0), lambda: read("12"), lambda: read("0"), lambda: turned_back(SOME[2])]
        for row in calm_rows_up_to(3):
            asks += [lambda row=row: added(row, 1), lambda row=row: taken(row, 1), lambda row=row: changes(row, 1)]
            asks += [lambda row=row: changes(row, 1, False), lambda row=row: put(row, [])]
            asks += [lambda row=row: joined(row, [])]
        for ask in asks:
            told = ask()
            kept = list(told)
            told.append(2)
            told[0] = 9
            self.assertEqual(ask(), kept)

    def test_a_list_told_is_not_the_one_handed_in(self):
        for row in calm_rows_up_to(3):
            self.assertIsNot(put(row, []), row)
            self.assertIsNot(joined(row, []), row)
            self.assertIsNot(joined([], row), row)
        for some in SOME:
            self.assertIsNot(turned_back(some), some)

    def test_the_worth_is_the_sum_of_the_deeds_in_whatever_order(self):
        deeds = [(0, True), (3, False), (0, True), (7, True), (2, False), (0, False), (7, False), (1, True)]
        deeds.append((399, False))
        amount = sum(2 ** place if up else -2 ** place for place, up in deeds)
        for first in range(len(deeds)):
            turned = deeds[first:] + deeds[:first]
            for order in (turned, turned[::-1]):
                counter = Counter()
                for place, up in order:
                    told = counter.add(place) if up else counter.take(place)
                    self.assertIn(len(told), (1, 2, 3))
                self.assertEqual(counter.amount(), amount)
                self.assertEqual(settled(counter.figures())[0], -1)


if __name__ == "__main__":
    unittest.main()
