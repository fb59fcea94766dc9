import unittest

from calmcount.steps import added, changes, taken
from oracle import calm_rows_up_to, changes_by_words


class ChangesCase(unittest.TestCase):
    def adds(self, row, place, told):
        self.assertEqual(changes(row, place), told, (row, place))
        self.assertEqual(changes(row, place, True), told, (row, place))

    def takes(self, row, place, told):
        self.assertEqual(changes(row, place, False), told, (row, place))


class AddingTest(ChangesCase):
    def test_figure_2(self):
        self.adds([2], 0, [(0, 2, 1), (1, 0, 1)])
        self.adds([2, 1], 0, [(0, 2, 1), (1, 1, 2)])
        self.adds([2, 0, 2], 0, [(0, 2, 1), (1, 0, 1)])
        self.adds([2, -1], 0, [(0, 2, 1), (1, -1, 0)])
        self.adds([1, 2, 1, 0, 2], 1, [(1, 2, 1), (2, 1, 2)])
        self.adds([2, 0, 1, 2], 3, [(3, 2, 1), (4, 0, 1)])

    def test_figure_minus_1(self):
        self.adds([-1], 0, [(0, -1, 0)])
        self.adds([-1, 2], 0, [(0, -1, 0)])
        self.adds([2, -1, 2], 1, [(1, -1, 0)])
        self.adds([0, 0, -1], 2, [(2, -1, 0)])

    def test_figure_0_with_no_2_above(self):
        self.adds([0, 1], 0, [(0, 0, 1)])
        self.adds([0, 1, 1, 1], 0, [(0, 0, 1)])
        self.adds([0, 0, 2], 0, [(0, 0, 1)])
        self.adds([0, -1, 2], 0, [(0, 0, 1)])
        self.adds([0, 1, 0, 2], 0, [(0, 0, 1)])
        self.adds([0, 1, 1, -1, 2], 0, [(0, 0, 1)])

    def test_figure_0_with_a_2_next_above(self):
        self.adds([0, 2], 0, [(0, 0, 1), (1, 2, 0), (2, 0, 1)])
        self.adds([0, 2, 1], 0, [(0, 0, 1), (1, 2, 0), (2, 1, 2)])
        self.adds([0, 2, -1], 0, [(0, 0, 1), (1, 2, 0), (2, -1, 0)])
        self.adds([0, 2, 0, 2], 0, [(0, 0, 1), (1, 2, 0), (2, 0, 1)])

    def test_figure_0_with_a_2_behind_a_run_of_1s(self):
        self.adds([0, 1, 1, 2], 0, [(0, 0, 1), (3, 2, 0), (4, 0, 1)])
        self.adds([-1, 0, 1, 2, 1, 1], 1, [(1, 0, 1), (3, 2, 0), (4, 1, 2)])
        self.adds([0, 1, 2, -1, 2], 0, [(0, 0, 1), (2, 2, 0), (3, -1, 0)])

    def test_figure_0_does_not_look_downward(self):
        self.adds([2, 0, 1], 1, [(1, 0, 1)])
        self.adds([2, 1, 0, 1], 2, [(2, 0, 1)])
        self.adds([2, 0, 2], 1, [(1, 0, 1), (2, 2, 0), (3, 0, 1)])

    def test_figure_1_with_no_2_on_either_side(self):
        self.adds([1], 0, [(0, 1, 2)])
        self.adds([1, 1, 1], 0, [(0, 1, 2)])
        self.adds([1, 1, 1], 1, [(1, 1, 2)])
        self.adds([1, 1, 1], 2, [(2, 1, 2)])
        self.adds([1, 0, 2], 0, [(0, 1, 2)])
        self.adds([1, -1, 2], 0, [(0, 1, 2)])
        self.adds([2, 0, 1], 2, [(2, 1, 2)])
        self.adds([2, -1, 1, 1], 3, [(3, 1, 2)])
        self.adds([-1, 1], 1, [(1, 1, 2)])

    def test_figure_1_with_a_2_above(self):
        self.adds([1, 2], 0, [(0, 1, 2), (1, 2, 0), (2, 0, 1)])
        self.adds([1, 2, 1], 0, [(0, 1, 2), (1, 2, 0), (2, 1, 2)])
        self.adds([1, 2, -1], 0, [(0, 1, 2), (1, 2, 0), (2, -1, 0)])
        self.adds([0, 1, 1, 1, 2], 1, [(1, 1, 2), (4, 2, 0), (5, 0, 1)])
        self.adds([1, 1, 2], 1, [(1, 1, 2), (2, 2, 0), (3, 0, 1)])

    def test_figure_1_with_a_2_below(self):
        self.adds([2, 1], 1, [(1, 1, 0), (2, 0, 1)])
        self.adds([2, 1, 1], 1, [(1, 1, 0), (2, 1, 2)])
        self.adds([2, 1, -1], 1, [(1, 1, 0), (2, -1, 0)])
        self.adds([2, 1, 0, 2], 1, [(1, 1, 0), (2, 0, 1)])
        self.adds([2, 1, 1, 1], 3, [(3, 1, 0), (4, 0, 1)])
        self.adds([0, 2, 1, 1, 1, 1], 4, [(4, 1, 0), (5, 1, 2)])

    def test_places_beyond_the_end(self):
        self.adds([], 0, [(0, 0, 1)])
        self.adds([], 7, [(7, 0, 1)])
        self.adds([], 399, [(399, 0, 1)])
        for row in ([1], [2], [-1], [2, 1, 1], [1, 2]):
            for place in (len(row), len(row) + 1, 100, 399):
                self.adds(row, place, [(place, 0, 1)])

    def test_long_runs_of_1s(self):
        self.adds([0] + [1] * 300, 0, [(0, 0, 1)])
        self.adds([0] + [1] * 300 + [2], 0, [(0, 0, 1), (301, 2, 0), (302, 0, 1)])
        self.adds([1] * 398 + [2, 1], 0, [(0, 1, 2), (398, 2, 0), (399, 1, 2)])
        self.adds([2] + [1] * 399, 399, [(399, 1, 0), (400, 0, 1)])
        self.adds([2] + [1] * 499, 399, [(399, 1, 0), (400, 1, 2)])
        self.adds([1] * 500, 399, [(399, 1, 2)])
        self.adds([1] * 499 + [2], 399, [(399, 1, 2), (499, 2, 0), (500, 0, 1)])
        self.adds([0] * 399 + [2], 399, [(399, 2, 1), (400, 0, 1)])


class TakingTest(ChangesCase):
    def test_figure_minus_1(self):
        self.takes([-1], 0, [(0, -1, 0), (1, 0, -1)])
        self.takes([-1, 1], 0, [(0, -1, 0), (1, 1, 0)])
        self.takes([-1, 2], 0, [(0, -1, 0), (1, 2, 1)])
        self.takes([-1, 0, 1], 0, [(0, -1, 0), (1, 0, -1)])
        self.takes([2, -1], 1, [(1, -1, 0), (2, 0, -1)])

    def test_figure_2(self):
        self.takes([2], 0, [(0, 2, 1)])
        self.takes([2, -1], 0, [(0, 2, 1)])
        self.takes([-1, 2, -1], 1, [(1, 2, 1)])
        self.takes([0, 0, 2], 2, [(2, 2, 1)])

    def test_figure_1_with_no_minus_1_above(self):
        self.takes([1], 0, [(0, 1, 0)])
        self.takes([1, 1], 0, [(0, 1, 0)])
        self.takes([1, 0, 0, 1], 0, [(0, 1, 0)])
        self.takes([1, 1, -1], 0, [(0, 1, 0)])
        self.takes([1, 2, -1], 0, [(0, 1, 0)])
        self.takes([1, 0, 1, -1], 0, [(0, 1, 0)])

    def test_figure_1_with_a_minus_1_next_above(self):
        self.takes([1, -1], 0, [(0, 1, 0), (1, -1, 1), (2, 0, -1)])
        self.takes([1, -1, 1], 0, [(0, 1, 0), (1, -1, 1), (2, 1, 0)])
        self.takes([1, -1, 2], 0, [(0, 1, 0), (1, -1, 1), (2, 2, 1)])
        self.takes([1, -1, 0, 1], 0, [(0, 1, 0), (1, -1, 1), (2, 0, -1)])

    def test_figure_1_with_a_minus_1_behind_a_run_of_0s(self):
        self.takes([1, 0, 0, -1], 0, [(0, 1, 0), (3, -1, 1), (4, 0, -1)])
        self.takes([2, 1, 0, -1, 0, 1], 1, [(1, 1, 0), (3, -1, 1), (4, 0, -1)])
        self.takes([1, 0, -1, 2], 0, [(0, 1, 0), (2, -1, 1), (3, 2, 1)])

    def test_figure_1_does_not_look_downward(self):
        self.takes([-1, 1], 1, [(1, 1, 0)])
        self.takes([-1, 0, 1, 1], 2, [(2, 1, 0)])
        self.takes([-1, 1, -1], 1, [(1, 1, 0), (2, -1, 1), (3, 0, -1)])

    def test_figure_0_with_no_minus_1_on_either_side(self):
        self.takes([0, 1], 0, [(0, 0, -1)])
        self.takes([0, 0, 0, 1], 0, [(0, 0, -1)])
        self.takes([0, 0, 0, 1], 2, [(2, 0, -1)])
        self.takes([0, 1, -1], 0, [(0, 0, -1)])
        self.takes([0, 2, -1], 0, [(0, 0, -1)])
        self.takes([-1, 1, 0, 1], 2, [(2, 0, -1)])
        self.takes([-1, 2, 0, 0, 1], 3, [(3, 0, -1)])

    def test_figure_0_with_a_minus_1_above(self):
        self.takes([0, -1], 0, [(0, 0, -1), (1, -1, 1), (2, 0, -1)])
        self.takes([0, -1, 1], 0, [(0, 0, -1), (1, -1, 1), (2, 1, 0)])
        self.takes([0, -1, 2], 0, [(0, 0, -1), (1, -1, 1), (2, 2, 1)])
        self.takes([1, 0, 0, 0, -1], 1, [(1, 0, -1), (4, -1, 1), (5, 0, -1)])
        self.takes([0, 0, -1], 1, [(1, 0, -1), (2, -1, 1), (3, 0, -1)])

    def test_figure_0_with_a_minus_1_below(self):
        self.takes([-1, 0, 1], 1, [(1, 0, 1), (2, 1, 0)])
        self.takes([-1, 0, 2], 1, [(1, 0, 1), (2, 2, 1)])
        self.takes([-1, 0, 0, 1], 1, [(1, 0, 1), (2, 0, -1)])
        self.takes([-1, 0, 0, 0, 1], 3, [(3, 0, 1), (4, 1, 0)])
        self.takes([1, -1, 0, 0, 1, -1], 3, [(3, 0, 1), (4, 1, 0)])

    def test_places_beyond_the_end_with_no_minus_1_below(self):
        self.takes([], 0, [(0, 0, -1)])
        self.takes([], 7, [(7, 0, -1)])
        self.takes([], 399, [(399, 0, -1)])
        for row in ([1], [2], [-1, 1], [-1, 0, 2]):
            for place in (len(row), len(row) + 1, 100, 399):
                self.takes(row, place, [(place, 0, -1)])

    def test_places_beyond_the_end_with_a_minus_1_below(self):
        for row in ([-1], [2, -1], [0, 0, -1], [1] * 50 + [-1]):
            for place in (len(row), len(row) + 1, 100, 399):
                self.takes(row, place, [(place, 0, 1), (place + 1, 0, -1)])

    def test_long_runs_of_0s(self):
        self.takes([1] + [0] * 300 + [1], 0, [(0, 1, 0)])
        self.takes([1] + [0] * 300 + [-1], 0, [(0, 1, 0), (301, -1, 1), (302, 0, -1)])
        self.takes([0] * 398 + [-1, 1], 0, [(0, 0, -1), (398, -1, 1), (399, 1, 0)])
        self.takes([-1] + [0] * 398 + [1], 398, [(398, 0, 1), (399, 1, 0)])
        self.takes([-1], 399, [(399, 0, 1), (400, 0, -1)])
        self.takes([-1] + [0] * 498 + [1], 399, [(399, 0, 1), (400, 0, -1)])
        self.takes([0] * 499 + [1], 399, [(399, 0, -1)])
        self.takes([0] * 499 + [-1], 399, [(399, 0, -1), (499, -1, 1), (500, 0, -1)])
        self.takes([0] * 399 + [-1], 399, [(399, -1, 0), (400, 0, -1)])


class ChangesTest(ChangesCase):
    def test_all_short_calm_rows(self):
        for row in calm_rows_up_to(6):
            for place in list(range(len(row) + 3)) + [399]:
                for up in (True, False):
                    self.assertEqual(changes(row, place, up), changes_by_words(row, place, up), (row, place, up))

    def test_form(self):
        for row in calm_rows_up_to(5):
            for place in range(len(row) + 2):
                for up in (True, False):
                    told = changes(row, place, up)
                    self.assertIs(type(told), list)
                    self.assertIn(len(told), (1, 2, 3))
                    self.assertTrue(all(type(change) is tuple and len(change) == 3 for change in told))
                    self.assertTrue(all(type(value) is int for change in told for value in change))
                    self.assertTrue(all(before != behind for at, before, behind in told))
                    places = [at for at, before, behind in told]
                    self.assertEqual(places, sorted(set(places)))

    def test_one_two_and_three_changes_come(self):
        for up in (True, False):
            found = {len(changes(row, place, up)) for row in calm_rows_up_to(3) for place in range(4)}
            self.assertEqual(found, {1, 2, 3})

    def test_up_may_be_named(self):
        self.assertEqual(changes([1], 0, up=True), [(0, 1, 2)])
        self.assertEqual(changes([1], 0, up=False), [(0, 1, 0)])
        self.assertEqual(changes(row=[1], place=0), [(0, 1, 2)])

    def test_places_0_and_399_are_places(self):
        for place in (0, 399):
            for up in (True, False):
                self.assertEqual(changes([], place, up), [(place, 0, 1 if up else -1)])
        self.assertEqual(added([], 399), [0] * 399 + [1])
        self.assertEqual(taken([], 399), [0] * 399 + [-1])


if __name__ == "__main__":
    unittest.main()
