import unittest

from calmcount.counter import Counter
from calmcount.errors import CountError, NoPlace, NotCalm, NoText, NothingDone
from calmcount.steps import added, changes, joined, taken
from calmcount.texts import read, shown
from oracle import calm_by_pairs, rows_up_to

FOUR = (NotCalm, NoPlace, NothingDone, NoText)
NO_PLACES = (
    -1, 400, 401, 500, -400, 2 ** 64, -2 ** 64, 10 ** 99, -10 ** 99, 10 ** 400, -10 ** 400, True, False, None, "",
    "0", "1", "place", [], [0], (), (0,), {}, {0: 0}, 0.0, 1.0, 1.5, float("nan"), float("inf"), 1j, b"0", set(),
    object(), int, len,
)
CALM = ([], [1], [2, -1], [0, 1, 2], [1] * 400)
NOT_CALM = (
    [0], [1, 0], [0] * 500, [2, 2], [2, 1, 2], [-1, -1], [-1, 0, -1], [2] + [1] * 498 + [2],
    [-1] + [0] * 498 + [-1], [3], [-2], [3, 1], [1, 3], [1, -2, 1], [10 ** 99], [-10 ** 99, 1], [0, 2 ** 400],
)


class RefusalsTest(unittest.TestCase):
    def refused(self, error, deed, *handed):
        with self.assertRaises(error, msg=handed) as caught:
            deed(*handed)
        found = caught.exception
        self.assertIsInstance(found, CountError)
        self.assertIsInstance(found, ValueError)
        for other in FOUR:
            self.assertEqual(isinstance(found, other), other is error, (other, handed))

    def test_what_is_no_place(self):
        for place in NO_PLACES:
            for row in CALM:
                self.refused(NoPlace, changes, row, place)
                self.refused(NoPlace, changes, row, place, True)
                self.refused(NoPlace, changes, row, place, False)
                self.refused(NoPlace, added, row, place)
                self.refused(NoPlace, taken, row, place)

    def test_the_place_is_looked_at_first(self):
        for place in NO_PLACES:
            for row in NOT_CALM:
                self.refused(NoPlace, changes, row, place)
                self.refused(NoPlace, changes, row, place, False)
                self.refused(NoPlace, added, row, place)
                self.refused(NoPlace, taken, row, place)

    def test_rows_that_are_not_calm(self):
        for row in NOT_CALM:
            for place in (0, 1, 2, 399):
                self.refused(NotCalm, changes, row, place)
                self.refused(NotCalm, changes, row, place, True)
                self.refused(NotCalm, changes, row, place, False)
                self.refused(NotCalm, added, row, place)
                self.refused(NotCalm, taken, row, place)
            self.refused(NotCalm, shown, row)

    def test_all_short_rows_that_are_not_calm(self):
        for row in rows_up_to(4):
            if not calm_by_pairs(row):
                self.refused(NotCalm, changes, row, 0)
                self.refused(NotCalm, added, row, 1)
                self.refused(NotCalm, taken, row, 2)
                self.refused(NotCalm, shown, row)
                self.refused(NotCalm, joined, row, [1])
                self.refused(NotCalm, joined, [1], row)

    def test_joined(self):
        for wrong in NOT_CALM:
            for row in CALM:
                self.refused(NotCalm, joined, wrong, row)
                self.refused(NotCalm, joined, row, wrong)
            for other in NOT_CALM:
                self.refused(NotCalm, joined, wrong, other)

    def test_counters(self):
        counter = Counter()
        for place in NO_PLACES:
            self.refused(NoPlace, counter.add, place)
            self.refused(NoPlace, counter.take, place)
        self.refused(NothingDone, counter.undo)

    def test_texts(self):
        for text in ("", "00", "01", "x", "22", "--"):
            self.refused(NoText, read, text)

    def test_what_is_handed_in_is_the_same_behind_a_refusal(self):
        for wrong in NOT_CALM:
            kept = list(wrong)
            self.refused(NotCalm, added, wrong, 0)
            self.refused(NotCalm, taken, wrong, 0)
            self.refused(NotCalm, changes, wrong, 0)
            self.refused(NotCalm, joined, wrong, [1])
            self.refused(NotCalm, joined, [1], wrong)
            self.refused(NotCalm, shown, wrong)
            self.assertEqual(wrong, kept)
        place = [0]
        self.refused(NoPlace, added, [1], place)
        self.assertEqual(place, [0])


if __name__ == "__main__":
    unittest.main()
