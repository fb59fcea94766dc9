import random
import unittest

from calmcount.rows import is_calm, worth
from calmcount.steps import added, changes, put, taken, turned_back
from oracle import calm_by_pairs, calm_rows_up_to, changes_by_words, drawn_row, put_by_words, worth_by_powers

# Even draws, then those that make long runs of 1s and of 0s.
WEIGHTS = ((1, 1, 1, 1), (1, 2, 40, 2), (2, 40, 2, 1), (1, 20, 20, 1), (5, 0, 1, 5))


class DeedsTest(unittest.TestCase):
    def check(self, row, place, up):
        ahead = list(row)
        deed = added if up else taken
        behind = deed(row, place)
        told = changes(row, place, up)
        case = (row, place, up)
        self.assertEqual(row, ahead, case)
        self.assertIs(type(behind), list, case)
        self.assertEqual(told, changes_by_words(row, place, up), case)
        self.assertEqual(behind, put_by_words(row, told), case)
        self.assertEqual(behind, put(row, told), case)
        self.assertTrue(calm_by_pairs(behind), case)
        self.assertIs(is_calm(behind), True, case)
        self.assertFalse(behind and behind[-1] == 0, case)
        by = 2 ** place if up else -2 ** place
        self.assertEqual(worth_by_powers(behind), worth_by_powers(row) + by, case)
        self.assertEqual(worth(behind), worth(row) + by, case)
        self.assertEqual(put(behind, turned_back(told)), ahead, case)
        differ = sum(1 for p in range(max(len(row), len(behind)))
                     if (row[p:p + 1] or [0]) != (behind[p:p + 1] or [0]))
        self.assertEqual(differ, len(told), case)
        self.assertLessEqual(differ, 3, case)
        return behind

    def test_ordinary_rows(self):
        self.assertEqual(added([], 0), [1])
        self.assertEqual(added([1], 0), [2])
        self.assertEqual(added([2], 0), [1, 1])
        self.assertEqual(added([1, 2], 0), [2, 0, 1])
        self.assertEqual(added([2, 1], 1), [2, 0, 1])
        self.assertEqual(added([1], 3), [1, 0, 0, 1])
        self.assertEqual(taken([], 0), [-1])
        self.assertEqual(taken([-1], 0), [0, -1])
        self.assertEqual(taken([0, -1], 0), [-1, 1, -1])
        self.assertEqual(taken([1, -1], 0), [0, 1, -1])
        self.assertEqual(taken([-1], 2), [-1, 0, 1, -1])

    def test_figures_0_at_the_end_are_taken_off(self):
        self.assertEqual(added([-1], 0), [])
        self.assertEqual(taken([1], 0), [])
        self.assertEqual(added([2, 0, 0, -1], 3), [2])
        self.assertEqual(taken([1, 0, 0, 1], 3), [1])
        self.assertEqual(taken([0] * 399 + [1], 399), [])
        self.assertEqual(added([0] * 399 + [-1], 399), [])
        self.assertEqual(added([1, 2, -1], 1), [1, 1])
        self.assertEqual(added([1, 2, -1], 0), [2])
        self.assertEqual(taken([0, -1, 1], 0), [-1, 1])
        self.assertEqual(taken([-1, 1], 0), [])

    def test_all_short_calm_rows(self):
        for row in calm_rows_up_to(6):
            for place in range(len(row) + 3):
                for up in (True, False):
                    self.check(row, place, up)

    def test_drawn_long_rows(self):
        source = random.Random(6)
        for weights in WEIGHTS:
            for length in (40, 200, 399, 400, 401, 500):
                row = drawn_row(source, length, weights)
                self.assertTrue(calm_by_pairs(row))
                for turn in range(20):
                    self.check(row, source.randrange(400), source.random() < 0.5)

    def test_drawn_deeds_one_behind_another(self):
        source = random.Random(8)
        for most in (1, 3, 12, 60):
            row = []
            amount = 0
            for turn in range(300):
                place = source.randrange(most)
                up = source.random() < 0.5
                row = self.check(row, place, up)
                amount += 2 ** place if up else -2 ** place
                self.assertEqual(worth(row), amount)

    def test_counting_up_and_down_at_one_place(self):
        for place in (0, 1, 399):
            for up in (True, False):
                row = []
                for turn in range(1, 130):
                    row = self.check(row, place, up)
                    self.assertEqual(worth(row), (turn if up else -turn) * 2 ** place)

    def test_long_runs(self):
        for row in ([1] * 400, [0] * 399 + [1], [2] + [1] * 399, [1] * 399 + [2], [1] * 399 + [-1],
                    [-1] + [0] * 398 + [1], [0] * 399 + [-1], [2] + [1] * 398 + [-1], [0] + [1] * 398 + [2]):
            for place in (0, 1, 2, 200, 397, 398, 399):
                for up in (True, False):
                    self.check(row, place, up)


if __name__ == "__main__":
    unittest.main()
