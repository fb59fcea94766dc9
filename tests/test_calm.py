import unittest

from calmcount.rows import is_calm
from oracle import calm_by_pairs, rows_up_to

NO_FIGURES = (3, -2, 4, -3, 10 ** 99, -10 ** 99, 2 ** 400, -2 ** 400)


class CalmTest(unittest.TestCase):
    def calm(self, *rows):
        for row in rows:
            self.assertIs(is_calm(row), True, row)

    def not_calm(self, *rows):
        for row in rows:
            self.assertIs(is_calm(row), False, row)

    def test_row_of_no_figures(self):
        self.calm([])

    def test_one_figure(self):
        self.calm([1], [2], [-1])
        self.not_calm([0])

    def test_last_figure_0(self):
        self.not_calm([1, 0], [2, 0], [-1, 0], [0, 0], [1, 1, 1, 0], [2, -1, 0])
        self.calm([0, 1], [0, 2], [0, -1], [0, 0, 0, 1])

    def test_two_2s_with_nothing_between(self):
        self.not_calm([2, 2], [2, 2, 1], [0, 2, 2], [2, 2, -1], [1, 2, 2, 1])

    def test_two_2s_with_1s_alone_between(self):
        self.not_calm([2, 1, 2], [2, 1, 1, 2], [2, 1, 1, 1, 1, 2, 0, 1], [-1, 2, 1, 2])

    def test_two_2s_with_a_figure_below_1_between(self):
        self.calm([2, 0, 2], [2, -1, 2], [2, 1, 0, 2], [2, 0, 1, 2], [2, 1, -1, 1, 2], [2, 0, 0, 2])

    def test_three_2s(self):
        self.calm([2, 0, 2, 0, 2], [2, -1, 2, 0, 2])
        self.not_calm([2, 0, 2, 1, 2], [2, 1, 2, 0, 2], [2, 0, 2, 2])

    def test_a_figure_below_1_beside_the_two_2s_is_not_between(self):
        self.not_calm([0, 2, 1, 2], [2, 1, 2, 0, 1], [-1, 2, 2, -1])

    def test_two_minus_1s_with_nothing_between(self):
        self.not_calm([-1, -1], [1, -1, -1], [-1, -1, 1], [0, -1, -1, 0, 2])

    def test_two_minus_1s_with_0s_alone_between(self):
        self.not_calm([-1, 0, -1], [-1, 0, 0, -1], [-1, 0, 0, 0, -1, 1], [2, -1, 0, -1])

    def test_two_minus_1s_with_a_figure_above_0_between(self):
        self.calm([-1, 1, -1], [-1, 2, -1], [-1, 0, 1, -1], [-1, 1, 0, -1], [-1, 0, 2, 0, -1])

    def test_three_minus_1s(self):
        self.calm([-1, 1, -1, 1, -1], [-1, 2, -1, 0, 1, -1])
        self.not_calm([-1, 1, -1, 0, -1], [-1, 0, -1, 1, -1])

    def test_a_figure_above_0_beside_the_two_minus_1s_is_not_between(self):
        self.not_calm([1, -1, 0, -1], [-1, 0, -1, 1], [2, -1, -1, 2])

    def test_what_is_no_figure(self):
        for number in NO_FIGURES:
            self.not_calm([number], [number, 1], [1, number], [1, number, 1], [0, 0, number])
            self.not_calm([2, number, 2], [-1, number, -1], [number, number])

    def test_truths_are_no_figures(self):
        self.not_calm([True], [1, True], [False, 1])

    def test_all_short_rows(self):
        for row in rows_up_to(7):
            self.assertIs(is_calm(row), calm_by_pairs(row), row)

    def test_calm_rows_of_500_figures(self):
        self.calm([1] * 500, [0] * 499 + [1], [0] * 499 + [2], [0] * 499 + [-1], [2, 0] * 249 + [2, 1])
        self.calm([2, -1] * 250, [-1, 2] * 250, [-1, 1] * 250)
        for place in (1, 250, 498):
            for low in (0, -1):
                row = [2] + [1] * 498 + [2]
                row[place] = low
                self.calm(row)
            for high in (1, 2):
                row = [-1] + [0] * 498 + [-1]
                row[place] = high
                self.calm(row)

    def test_rows_of_500_figures_that_are_not_calm(self):
        self.not_calm([0] * 500, [1] * 499 + [0], [2] * 500, [-1] * 500)
        self.not_calm([2] + [1] * 498 + [2], [-1] + [0] * 498 + [-1])
        for number in NO_FIGURES:
            for place in (0, 250, 499):
                row = [1] * 500
                row[place] = number
                self.not_calm(row)

    def test_the_row_is_the_same_behind_it(self):
        for row in list(rows_up_to(4)) + [[3, 0], [1, -2, 1], [0] * 500]:
            before = list(row)
            is_calm(row)
            self.assertEqual(row, before)


if __name__ == "__main__":
    unittest.main()
