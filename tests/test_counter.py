import random
import unittest

from calmcount.counter import Counter
from calmcount.errors import NoPlace, NothingDone
from calmcount.rows import worth
from oracle import calm_by_pairs, changes_by_words, put_by_words, worth_by_powers


class CounterTest(unittest.TestCase):
    def stands(self, counter, row, amount, many):
        self.assertEqual(counter.figures(), row)
        self.assertEqual(counter.amount(), amount)
        self.assertEqual(counter.many(), many)

    def test_a_new_counter(self):
        self.stands(Counter(), [], 0, 0)
        self.assertIs(type(Counter().figures()), list)
        self.assertIs(type(Counter().amount()), int)
        self.assertIs(type(Counter().many()), int)

    def test_adding(self):
        counter = Counter()
        self.assertEqual(counter.add(0), [(0, 0, 1)])
        self.stands(counter, [1], 1, 1)
        self.assertEqual(counter.add(0), [(0, 1, 2)])
        self.stands(counter, [2], 2, 2)
        self.assertEqual(counter.add(0), [(0, 2, 1), (1, 0, 1)])
        self.stands(counter, [1, 1], 3, 3)
        self.assertEqual(counter.add(3), [(3, 0, 1)])
        self.stands(counter, [1, 1, 0, 1], 11, 4)

    def test_taking(self):
        counter = Counter()
        self.assertEqual(counter.take(0), [(0, 0, -1)])
        self.stands(counter, [-1], -1, 1)
        self.assertEqual(counter.take(0), [(0, -1, 0), (1, 0, -1)])
        self.stands(counter, [0, -1], -2, 2)
        self.assertEqual(counter.take(0), [(0, 0, -1), (1, -1, 1), (2, 0, -1)])
        self.stands(counter, [-1, 1, -1], -3, 3)

    def test_undoing(self):
        counter = Counter()
        counter.take(0)
        counter.take(0)
        counter.take(0)
        self.assertEqual(counter.undo(), [(0, -1, 0), (1, 1, -1), (2, -1, 0)])
        self.stands(counter, [0, -1], -2, 2)
        self.assertEqual(counter.undo(), [(0, 0, -1), (1, -1, 0)])
        self.stands(counter, [-1], -1, 1)
        self.assertEqual(counter.undo(), [(0, -1, 0)])
        self.stands(counter, [], 0, 0)

    def test_undoing_is_no_deed_and_leads_to_the_very_row(self):
        counter = Counter()
        counter.add(0)
        counter.add(0)
        counter.take(1)
        self.stands(counter, [2, -1], 0, 3)
        counter.add(0)
        # Taking at the same place would lead to another row of the same worth.
        self.stands(counter, [1], 1, 4)
        counter.undo()
        self.stands(counter, [2, -1], 0, 3)
        counter.take(0)
        counter.undo()
        counter.undo()
        self.stands(counter, [2], 2, 2)

    def test_undo_with_no_deed_left(self):
        counter = Counter()
        for turn in range(2):
            with self.assertRaises(NothingDone):
                counter.undo()
            self.stands(counter, [], 0, 0)
        counter.add(5)
        counter.undo()
        with self.assertRaises(NothingDone):
            counter.undo()
        self.stands(counter, [], 0, 0)
        self.assertEqual(counter.take(1), [(1, 0, -1)])
        self.stands(counter, [0, -1], -2, 1)

    def test_places_0_and_399(self):
        counter = Counter()
        counter.add(399)
        counter.take(0)
        self.stands(counter, [-1] + [0] * 398 + [1], 2 ** 399 - 1, 2)
        counter.add(399)
        counter.add(399)
        self.stands(counter, [-1] + [0] * 398 + [1, 1], 3 * 2 ** 399 - 1, 4)

    def test_many_deeds_at_the_last_place_grow_the_row_beyond_it(self):
        counter = Counter()
        for turn in range(1, 1025):
            self.assertLessEqual(len(counter.add(399)), 3)
        self.assertEqual(counter.amount(), 2 ** 409)
        self.assertTrue(calm_by_pairs(counter.figures()))

    def test_a_refused_deed_changes_nothing_and_is_no_deed(self):
        counter = Counter()
        counter.add(3)
        counter.take(1)
        row = counter.figures()
        for place in (-1, 400, 10 ** 99, -10 ** 99, True, False, None, "0", [0], (0,), {}, 1.0):
            for deed in (counter.add, counter.take):
                with self.assertRaises(NoPlace):
                    deed(place)
                self.stands(counter, row, 6, 2)
        self.assertEqual(counter.undo(), [(1, -1, 0)])
        self.assertEqual(counter.undo(), [(3, 1, 0)])
        with self.assertRaises(NothingDone):
            counter.undo()

    def test_a_refused_deed_on_a_new_counter(self):
        counter = Counter()
        with self.assertRaises(NoPlace):
            counter.add(400)
        self.stands(counter, [], 0, 0)
        with self.assertRaises(NothingDone):
            counter.undo()

    def test_drawn_deeds_mixed_with_undoing(self):
        for seed, most in ((1, 2), (2, 6), (3, 30), (4, 400)):
            source = random.Random(seed)
            counter = Counter()
            rows = [[]]
            done = []
            for turn in range(600):
                if source.random() < 0.35:
                    self.undone(counter, rows, done)
                else:
                    self.done(counter, rows, done, source.randrange(most), source.random() < 0.5)
                self.stands(counter, rows[-1], sum(by for by, told in done), len(done))
            while done:
                self.undone(counter, rows, done)
                self.stands(counter, rows[-1], sum(by for by, told in done), len(done))
            self.undone(counter, rows, done)

    def done(self, counter, rows, done, place, up):
        told = counter.add(place) if up else counter.take(place)
        self.assertEqual(told, changes_by_words(rows[-1], place, up))
        self.assertIn(len(told), (1, 2, 3))
        rows.append(put_by_words(rows[-1], told))
        self.assertTrue(calm_by_pairs(rows[-1]))
        done.append((2 ** place if up else -2 ** place, told))

    def undone(self, counter, rows, done):
        if not done:
            with self.assertRaises(NothingDone):
                counter.undo()
            return
        by, told = done.pop()
        rows.pop()
        self.assertEqual(counter.undo(), [(place, behind, before) for place, before, behind in told])

    def test_counting_far(self):
        counter = Counter()
        for turn in range(1, 3001):
            counter.add(0)
            self.assertEqual(counter.amount(), turn)
        for turn in range(1, 6001):
            counter.take(0)
        self.assertEqual(counter.amount(), -3000)
        self.assertEqual(worth_by_powers(counter.figures()), -3000)
        self.assertEqual(counter.many(), 9000)
        for turn in range(9000):
            counter.undo()
        self.stands(counter, [], 0, 0)

    def test_lists_told_are_the_asker_s_own(self):
        counter = Counter()
        for told in (counter.add(0), counter.add(0), counter.take(2), counter.add(0)):
            told.append((9, 0, 2))
            told[0] = (0, 0, -1)
            told.reverse()
        row = counter.figures()
        kept = list(row)
        row.append(2)
        row[0] = 7
        self.stands(counter, kept, -1, 4)
        counter.figures().clear()
        self.stands(counter, kept, -1, 4)
        counter.undo().clear()
        self.stands(counter, [2, 0, -1], -2, 3)
        back = counter.undo()
        back[0] = (5, 1, 1)
        self.stands(counter, [2], 2, 2)
        self.assertEqual(counter.undo(), [(0, 2, 1)])
        self.assertEqual(counter.undo(), [(0, 1, 0)])
        self.stands(counter, [], 0, 0)

    def test_lists_told_stay_as_they_were(self):
        counter = Counter()
        first = counter.add(0)
        row = counter.figures()
        counter.add(0)
        counter.add(0)
        third = counter.figures()
        back = counter.undo()
        counter.undo()
        counter.undo()
        counter.take(7)
        self.assertEqual(first, [(0, 0, 1)])
        self.assertEqual(row, [1])
        self.assertEqual(third, [1, 1])
        self.assertEqual(back, [(0, 1, 2), (1, 1, 0)])

    def test_two_counters_side_by_side(self):
        one = Counter()
        other = Counter()
        one.add(0)
        one.add(2)
        self.stands(other, [], 0, 0)
        with self.assertRaises(NothingDone):
            other.undo()
        other.take(0)
        self.stands(one, [1, 0, 1], 5, 2)
        self.stands(other, [-1], -1, 1)
        one.undo()
        self.stands(one, [1], 1, 1)
        self.stands(other, [-1], -1, 1)
        other.undo()
        self.stands(one, [1], 1, 1)
        self.assertEqual(worth(one.figures()), 1)


if __name__ == "__main__":
    unittest.main()
