import random
import unittest

from calmcount.steps import put, turned_back
from oracle import FIGURES, put_by_words, rows_up_to


class PutTest(unittest.TestCase):
    def test_no_changes(self):
        self.assertEqual(put([], []), [])
        self.assertEqual(put([1, 2], []), [1, 2])
        self.assertEqual(put([0], []), [])
        self.assertEqual(put([1, 0, -1, 0, 0], []), [1, 0, -1])
        self.assertEqual(put([0] * 500, []), [])
        self.assertEqual(put([1] + [0] * 499, []), [1])

    def test_changes_within_the_row(self):
        self.assertEqual(put([1, 1, 1], [(1, 1, 2)]), [1, 2, 1])
        self.assertEqual(put([1, 1, 1], [(0, 1, 0), (2, 1, -1)]), [0, 1, -1])
        self.assertEqual(put([1, 1, 1, 1], [(0, 1, -1), (1, 1, 0), (2, 1, 2), (3, 1, -1)]), [-1, 0, 2, -1])

    def test_a_last_figure_that_becomes_0(self):
        self.assertEqual(put([1], [(0, 1, 0)]), [])
        self.assertEqual(put([1, 0, 0, 2], [(3, 2, 0)]), [1])
        self.assertEqual(put([1, 2, 1], [(1, 2, 0), (2, 1, 0)]), [1])

    def test_changes_beyond_the_end(self):
        self.assertEqual(put([], [(0, 0, 1)]), [1])
        self.assertEqual(put([], [(3, 0, -1)]), [0, 0, 0, -1])
        self.assertEqual(put([2], [(1, 0, 1)]), [2, 1])
        self.assertEqual(put([2], [(4, 0, 1), (6, 0, 2)]), [2, 0, 0, 0, 1, 0, 2])
        self.assertEqual(put([1], [(500, 0, 2)]), [1] + [0] * 499 + [2])
        self.assertEqual(put([1] * 500, [(500, 0, -1)]), [1] * 500 + [-1])
        self.assertEqual(put([], [(place, 0, 1) for place in range(501)]), [1] * 501)

    def test_figures_0_set_beyond_the_end(self):
        self.assertEqual(put([], [(500, 2, 0)]), [])
        self.assertEqual(put([1], [(1, 1, 0)]), [1])
        self.assertEqual(put([1, 0, 0], [(7, 1, 0), (500, 1, 0)]), [1])
        self.assertEqual(put([1], [(3, 0, 1), (9, 1, 0)]), [1, 0, 0, 1])

    def test_rows_that_are_not_calm(self):
        self.assertEqual(put([2, 2, 2], [(1, 2, 1)]), [2, 1, 2])
        self.assertEqual(put([-1, -1, 0, 0], [(0, -1, 1)]), [1, -1])
        self.assertEqual(put([-1, 0, -1], []), [-1, 0, -1])
        self.assertEqual(put([1, 0, 0, 0], [(2, 0, 2)]), [1, 0, 2])
        self.assertEqual(put([1], [(0, 1, 2), (1, 0, 2)]), [2, 2])

    def test_the_figure_before_is_not_looked_at(self):
        for figure in FIGURES:
            for before in FIGURES:
                for behind in FIGURES:
                    told = put([figure, 1], [(0, before, behind)])
                    self.assertEqual(told, [behind, 1], (figure, before, behind))
        self.assertEqual(put([1], [(0, 2, 2)]), [2])
        self.assertEqual(put([], [(2, 2, 1)]), [0, 0, 1])

    def test_short_rows_with_drawn_changes(self):
        source = random.Random(9)
        for row in rows_up_to(5):
            places = sorted(source.sample(range(8), source.randrange(5)))
            some = [(place, source.choice(FIGURES), source.choice(FIGURES)) for place in places]
            self.assertEqual(put(row, some), put_by_words(row, some), (row, some))

    def test_a_new_list(self):
        for row, some in (([1, 2], []), ([], []), ([1], [(0, 1, 2)])):
            kept = list(row)
            told = put(row, some)
            self.assertIsNot(told, row)
            told.append(1)
            self.assertEqual(row, kept)


class TurnedBackTest(unittest.TestCase):
    def test_none(self):
        self.assertEqual(turned_back([]), [])

    def test_several(self):
        self.assertEqual(turned_back([(3, 0, 1)]), [(3, 1, 0)])
        self.assertEqual(turned_back([(0, 1, 2), (4, 2, 0), (5, -1, 0)]), [(0, 2, 1), (4, 0, 2), (5, 0, -1)])
        self.assertEqual(turned_back([(p, 2, -1) for p in range(501)]), [(p, -1, 2) for p in range(501)])

    def test_form(self):
        told = turned_back([(0, 1, 2), (500, 0, -1)])
        self.assertIs(type(told), list)
        self.assertTrue(all(type(change) is tuple for change in told))

    def test_twice_is_the_list_itself_but_a_new_one(self):
        for some in ([], [(1, 0, 2)], [(0, 1, 2), (1, 2, 0), (2, 0, 1)]):
            kept = list(some)
            again = turned_back(turned_back(some))
            self.assertEqual(again, kept)
            told = turned_back(some)
            told.append((9, 0, 1))
            self.assertEqual(some, kept)

    def test_leads_back(self):
        for row in rows_up_to(4):
            ahead = put(row, [])
            some = [(place, ahead[place] if place < len(ahead) else 0, 1) for place in range(0, 7, 2)]
            self.assertEqual(put(put(ahead, some), turned_back(some)), ahead)


if __name__ == "__main__":
    unittest.main()
