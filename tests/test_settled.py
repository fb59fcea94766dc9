import unittest

from calmcount.errors import CountError, NotCalm
from calmcount.rows import plain, settled
from oracle import calm_by_pairs, rows_up_to, settled_by_ends, worth_by_powers


class SettledTest(unittest.TestCase):
    def test_row_of_no_figures(self):
        self.assertEqual(settled([]), (0, 0))

    def test_a_tuple_of_two_whole_numbers(self):
        for row in ([], [1], [-1], [0, -1], [2, -1], [0, 1]):
            answer = settled(row)
            self.assertIs(type(answer), tuple)
            self.assertEqual([type(value) for value in answer], [int, int])

    def test_settled_by_the_last_figure(self):
        self.assertEqual(settled([1]), (1, 0))
        self.assertEqual(settled([2]), (1, 0))
        self.assertEqual(settled([-1, 0, 1]), (1, 2))
        self.assertEqual(settled([2, 0, 2]), (1, 2))
        self.assertEqual(settled([0, -1, 0, 0, 1]), (1, 4))

    def test_settled_in_the_midst(self):
        self.assertEqual(settled([0, 0, -1]), (-1, 1))
        self.assertEqual(settled([1, 1, 0, -1]), (-1, 2))
        self.assertEqual(settled([1, 0, 1, 1, -1]), (-1, 1))
        self.assertEqual(settled([0, 1, 2, -1]), (1, 1))
        self.assertEqual(settled([2, 0, 1, 1, -1]), (-1, 1))

    def test_settled_by_the_first_figure_only(self):
        self.assertEqual(settled([0, -1]), (-1, 0))
        self.assertEqual(settled([0, 1, -1]), (-1, 0))
        self.assertEqual(settled([1, 2, -1]), (1, 0))
        self.assertEqual(settled([2, 0, 2, 1, -1]), (1, 0))
        self.assertEqual(settled([-1, 2, -1]), (-1, 0))

    def test_all_read_and_worth_0(self):
        self.assertEqual(settled([2, -1]), (0, 0))
        self.assertEqual(settled([0, 2, -1]), (0, 0))
        self.assertEqual(settled([2, 1, 1, -1]), (0, 0))
        self.assertEqual(settled([0, 0, 2, 1, -1]), (0, 0))

    def test_all_read_and_worth_1_below_0(self):
        self.assertEqual(settled([-1]), (-1, 0))
        self.assertEqual(settled([1, -1]), (-1, 0))
        self.assertEqual(settled([1, 1, 1, -1]), (-1, 0))
        self.assertEqual(settled([-1, 2, -1]), (-1, 0))

    def test_the_sum_1_below_0_goes_on(self):
        self.assertEqual(settled([0, 0, 1, 1, -1]), (-1, 1))
        self.assertEqual(settled([1, 2, 1, 1, -1]), (1, 0))
        self.assertEqual(settled([0, -1, 2, 1, -1]), (-1, 0))
        for ones in (1, 5, 100, 498):
            self.assertEqual(settled([1] * ones + [-1]), (-1, 0))
            self.assertEqual(settled([2] + [1] * ones + [-1]), (0, 0))
            self.assertEqual(settled([0] + [1] * ones + [-1]), (-1, 0))

    def test_the_sum_goes_below_minus_1(self):
        self.assertEqual(settled([2, 0, -1]), (-1, 1))
        self.assertEqual(settled([1, 1, 1, 0, 1, -1]), (-1, 3))
        self.assertEqual(settled([2, -1, 1, -1]), (-1, 1))

    def test_all_short_calm_rows(self):
        calm = 0
        for row in rows_up_to(7):
            if not calm_by_pairs(row):
                continue
            calm += 1
            amount = worth_by_powers(row)
            sign = (amount > 0) - (amount < 0)
            self.assertEqual(settled(row)[0], sign, row)
            self.assertEqual(settled(row), settled_by_ends(row), row)
        self.assertGreater(calm, 1000)

    def test_plain_rows(self):
        for number in (1, 2, 3, 2 ** 300, 10 ** 100 - 1):
            self.assertEqual(settled(plain(number)), (1, len(plain(number)) - 1))
            self.assertEqual(settled(plain(-number)), settled_by_ends(plain(-number)))
            self.assertEqual(settled(plain(-number))[0], -1)

    def test_rows_of_500_figures(self):
        self.assertEqual(settled([0] * 499 + [1]), (1, 499))
        self.assertEqual(settled([0] * 499 + [-1]), (-1, 498))
        self.assertEqual(settled([0] * 498 + [2, -1]), (0, 0))
        self.assertEqual(settled([1] + [0] * 497 + [2, -1]), (1, 0))
        self.assertEqual(settled([-1] + [0] * 497 + [2, -1]), (-1, 0))
        self.assertEqual(settled([1] * 250 + [0] + [1] * 248 + [-1]), (-1, 250))

    def test_what_is_no_calm_row_is_refused(self):
        wrong = [[0], [1, 0], [0] * 500, [2, 2], [2, 1, 2], [-1, -1], [-1, 0, -1], [2] + [1] * 498 + [2]]
        wrong += [[3], [-2], [3, 1], [1, 3], [1, -2, 1], [10 ** 99], [-10 ** 99, 1], [0, 2 ** 400]]
        # Refused even where the figures read first would settle it.
        wrong += [[2, 2, 1], [-1, -1, 1], [7, 0, 1], [2, 2, 0, 0, -1]]
        for row in wrong:
            with self.assertRaises(NotCalm, msg=row):
                settled(row)
            with self.assertRaises(CountError, msg=row):
                settled(row)

    def test_all_short_rows_that_are_not_calm_are_refused(self):
        for row in rows_up_to(5):
            if not calm_by_pairs(row):
                with self.assertRaises(NotCalm, msg=row):
                    settled(row)

    def test_the_row_is_the_same_behind_it(self):
        for row in list(rows_up_to(4)) + [[3, 0], [1, -2, 1], [0] * 500]:
            before = list(row)
            try:
                settled(row)
            except NotCalm:
                pass
            self.assertEqual(row, before)


if __name__ == "__main__":
    unittest.main()
