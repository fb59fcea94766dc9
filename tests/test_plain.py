import unittest

from calmcount.rows import is_calm, plain, worth
from oracle import calm_by_pairs, worth_by_powers


class PlainTest(unittest.TestCase):
    def check(self, number):
        row = plain(number)
        self.assertIs(type(row), list)
        self.assertTrue(all(type(figure) is int for figure in row), number)
        self.assertEqual(worth_by_powers(row), number)
        self.assertEqual(worth(row), number)
        self.assertIs(is_calm(row), True, number)
        self.assertTrue(calm_by_pairs(row), number)
        if number == 0:
            self.assertEqual(row, [])
        elif number > 0:
            self.assertTrue(all(figure in (0, 1) for figure in row), number)
            self.assertEqual(row[-1], 1)
        else:
            self.check_below_0(number, row)

    def check_below_0(self, number, row):
        place = 0
        while 2 ** place < -number:
            place += 1
        self.assertEqual(len(row), place + 1, number)
        self.assertEqual(row[-1], -1)
        self.assertTrue(all(figure in (0, 1) for figure in row[:-1]), number)

    def test_small_numbers(self):
        rows = {
            0: [], 1: [1], 2: [0, 1], 3: [1, 1], 4: [0, 0, 1], 5: [1, 0, 1], 6: [0, 1, 1],
            -1: [-1], -2: [0, -1], -3: [1, 0, -1], -4: [0, 0, -1], -5: [1, 1, 0, -1], -6: [0, 1, 0, -1],
            -7: [1, 0, 0, -1], -8: [0, 0, 0, -1], -9: [1, 1, 1, 0, -1],
        }
        for number, row in rows.items():
            self.assertEqual(plain(number), row, number)

    def test_all_numbers_near_0(self):
        for number in range(-1100, 1101):
            self.check(number)

    def test_powers_of_two_and_their_neighbours(self):
        for place in range(333):
            for more in (-1, 0, 1):
                self.check(2 ** place + more)
                self.check(-(2 ** place + more))

    def test_a_power_of_two_has_one_figure_that_is_not_0(self):
        for place in (0, 1, 63, 64, 65, 300):
            self.assertEqual(plain(2 ** place), [0] * place + [1])
            self.assertEqual(plain(-2 ** place), [0] * place + [-1])

    def test_numbers_of_100_digits(self):
        sevens = int("7" * 100)
        mixed = int("1234567890" * 10)
        for number in (10 ** 99, 10 ** 99 + 1, 10 ** 100 - 1, sevens, mixed):
            self.check(number)
            self.check(-number)

    def test_what_the_asker_does_to_a_row_changes_nothing_told_later(self):
        for number in (0, 1, 2, 6, -1, -2, -3, 10 ** 99, -10 ** 99):
            first = plain(number)
            kept = list(first)
            first.append(2)
            first[0] = 7
            self.assertEqual(plain(number), kept)
            later = plain(number)
            later.clear()
            self.assertEqual(plain(number), kept)

    def test_what_is_asked_later_does_not_change_a_row_told(self):
        told = plain(-6)
        plain(0)
        plain(5)
        plain(-6).append(1)
        worth(told)
        is_calm(told)
        self.assertEqual(told, [0, 1, 0, -1])


if __name__ == "__main__":
    unittest.main()
