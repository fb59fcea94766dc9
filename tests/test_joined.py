import random
import unittest

from calmcount.rows import is_calm, plain
from calmcount.steps import added, joined, taken
from oracle import calm_by_pairs, calm_rows_up_to, drawn_row, joined_by_words, worth_by_powers


class JoinedTest(unittest.TestCase):
    def check(self, one, other):
        kept = (list(one), list(other))
        made = joined(one, other)
        self.assertIs(type(made), list)
        self.assertEqual((one, other), kept)
        self.assertEqual(made, joined_by_words(one, other), (one, other))
        self.assertTrue(calm_by_pairs(made), (one, other))
        self.assertIs(is_calm(made), True, (one, other))
        self.assertEqual(worth_by_powers(made), worth_by_powers(one) + worth_by_powers(other), (one, other))

    def test_the_row_of_no_figures(self):
        self.assertEqual(joined([], []), [])
        for row in ([1], [2, -1], [-1, 2, 0, 1], [1] * 400):
            self.assertEqual(joined(row, []), row)
            self.check([], row)

    def test_the_row_of_no_figures_first_makes_the_second_one_again(self):
        # Each figure comes to a row that ends below it, and as the second row is calm no 2 or -1 is turned aside.
        for row in calm_rows_up_to(6):
            self.assertEqual(joined([], row), row)

    def test_each_figure_in_the_second_one(self):
        self.assertEqual(joined([1], [2]), added(added([1], 0), 0))
        self.assertEqual(joined([1], [1]), added([1], 0))
        self.assertEqual(joined([1], [-1]), taken([1], 0))
        self.assertEqual(joined([1], [0, 1]), added([1], 1))
        self.assertEqual(joined([1, 2], [0, 2]), added(added([1, 2], 1), 1))
        self.assertEqual(joined([1, 2], [0, -1]), taken([1, 2], 1))
        self.assertEqual(joined([1], [2]), [1, 1])
        self.assertEqual(joined([1], [-1]), [])
        self.assertEqual(joined([2, -1], [-1, 2]), [1, 1])

    def test_the_order_is_from_place_0_on(self):
        turned = 0
        for one in calm_rows_up_to(3):
            for other in calm_rows_up_to(3):
                made = one
                for place in reversed(range(len(other))):
                    figure = other[place]
                    for turn in range(abs(figure)):
                        made = added(made, place) if figure > 0 else taken(made, place)
                turned += made != joined(one, other)
        # The other order tells other rows, so that the check against the words is one of the order, too.
        self.assertGreater(turned, 100)

    def test_all_pairs_of_short_calm_rows(self):
        rows = calm_rows_up_to(4)
        for one in rows:
            for other in rows:
                self.check(one, other)

    def test_drawn_long_rows(self):
        source = random.Random(10)
        for weights in ((1, 1, 1, 1), (1, 2, 20, 2), (2, 20, 2, 1)):
            for lengths in ((400, 400), (500, 400), (3, 400), (400, 3), (200, 350)):
                self.check(drawn_row(source, lengths[0], weights), drawn_row(source, lengths[1], weights))

    def test_plain_rows(self):
        for one in (0, 1, -1, 7, -8, 10 ** 99, -10 ** 99):
            for other in (0, 1, -1, 9, -7, 10 ** 99 + 1, -10 ** 99):
                self.check(plain(one), plain(other))

    def test_a_second_row_somewhat_longer_than_400_is_not_refused(self):
        self.check([1], [1] * 401)
        self.check([], [0] * 449 + [2])
        self.check([2, -1], [-1, 2] * 250)

    def test_one_list_as_both(self):
        for row in calm_rows_up_to(4):
            kept = list(row)
            self.assertEqual(joined(row, row), joined_by_words(kept, kept))
            self.assertEqual(row, kept)

    def test_a_new_list(self):
        for one, other in (([1, 2], []), ([], []), ([], [1]), ([1], [2, -1])):
            kept = (list(one), list(other))
            made = joined(one, other)
            made.append(2)
            made[0] = 7
            self.assertEqual((one, other), kept)
            self.assertEqual(joined(one, other), joined_by_words(*kept))


if __name__ == "__main__":
    unittest.main()
