import unittest

from calmcount.rows import worth
from oracle import FIGURES, rows_up_to, worth_by_powers


class WorthTest(unittest.TestCase):
    def test_row_of_no_figures(self):
        self.assertEqual(worth([]), 0)
        self.assertIs(type(worth([])), int)

    def test_each_figure_at_place_0(self):
        for figure in FIGURES:
            self.assertEqual(worth([figure]), figure)

    def test_each_figure_at_each_place(self):
        for place in list(range(1, 70)) + [399, 400, 499]:
            for figure in FIGURES:
                self.assertEqual(worth([0] * place + [figure]), figure * 2 ** place, (figure, place))

    def test_place_0_is_first(self):
        self.assertEqual(worth([1, 0, 0, -1]), -7)
        self.assertEqual(worth([-1, 0, 0, 1]), 7)
        self.assertEqual(worth([0, 1, 2]), 10)

    def test_several_rows_of_one_worth(self):
        self.assertEqual(worth([2, -1]), 0)
        self.assertEqual(worth([0, 2, -1]), 0)

    def test_rows_that_are_not_calm(self):
        self.assertEqual(worth([2, 2, 2]), 14)
        self.assertEqual(worth([2, 1, 2]), 12)
        self.assertEqual(worth([-1, -1, -1]), -7)
        self.assertEqual(worth([-1, 0, -1]), -5)

    def test_all_short_rows(self):
        for row in rows_up_to(6):
            self.assertEqual(worth(row), worth_by_powers(row), row)

    def test_figures_0_at_the_end_change_nothing(self):
        for row in rows_up_to(3):
            for more in (1, 2, 7, 400):
                self.assertEqual(worth(row + [0] * more), worth_by_powers(row), (row, more))
        self.assertEqual(worth([0] * 500), 0)

    def test_rows_of_500_figures(self):
        most = 2 ** 500 - 1
        self.assertEqual(worth([1] * 500), most)
        self.assertEqual(worth([2] * 500), 2 * most)
        self.assertEqual(worth([-1] * 500), -most)
        self.assertEqual(worth([0] * 499 + [-1]), -2 ** 499)
        mixed = [FIGURES[(place * place + place // 7) % 4] for place in range(500)]
        self.assertEqual(worth(mixed), worth_by_powers(mixed))

    def test_the_row_is_the_same_behind_it(self):
        for row in rows_up_to(4):
            before = list(row)
            worth(row)
            self.assertEqual(row, before)


if __name__ == "__main__":
    unittest.main()
