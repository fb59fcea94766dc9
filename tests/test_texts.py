import itertools
import random
import unittest

from calmcount.errors import NoText
from calmcount.rows import plain
from calmcount.texts import read, shown
from oracle import calm_by_pairs, calm_rows_up_to, drawn_row

SIGNS = {"2": 2, "1": 1, "0": 0, "-": -1}
PROMISED = [chr(code) for code in range(32, 127)] + ["\n", "\r", "\t"]


class ShownTest(unittest.TestCase):
    def test_the_row_of_no_figures(self):
        self.assertEqual(shown([]), "0")

    def test_each_sign(self):
        self.assertEqual(shown([2]), "2")
        self.assertEqual(shown([1]), "1")
        self.assertEqual(shown([-1]), "-")
        self.assertEqual(shown([0, 1]), "10")

    def test_the_last_figure_first(self):
        self.assertEqual(shown([-1, 0, 1, 2]), "210-")
        self.assertEqual(shown([2, -1]), "-2")
        self.assertEqual(shown([-1, 2]), "2-")
        self.assertEqual(shown(plain(-3)), "-01")
        self.assertIs(type(shown([1, 1])), str)

    def test_500_figures(self):
        self.assertEqual(shown([1] * 500), "1" * 500)
        self.assertEqual(shown([0] * 499 + [-1]), "-" + "0" * 499)
        self.assertEqual(shown([2, -1] * 250), "-2" * 250)


class ReadTest(unittest.TestCase):
    def refused(self, *texts):
        for text in texts:
            with self.assertRaises(NoText, msg=text):
                read(text)

    def test_the_row_of_no_figures(self):
        self.assertEqual(read("0"), [])

    def test_each_sign(self):
        self.assertEqual(read("2"), [2])
        self.assertEqual(read("1"), [1])
        self.assertEqual(read("-"), [-1])
        self.assertEqual(read("10"), [0, 1])
        self.assertEqual(read("210-"), [-1, 0, 1, 2])
        self.assertEqual(read("-1"), [1, -1])
        self.assertEqual(read("-2"), [2, -1])

    def test_a_row_of_whole_numbers(self):
        told = read("210-")
        self.assertIs(type(told), list)
        self.assertTrue(all(type(figure) is int for figure in told))

    def test_shown_and_then_read(self):
        for row in calm_rows_up_to(6):
            self.assertEqual(read(shown(row)), row)
        source = random.Random(13)
        for weights in ((1, 1, 1, 1), (1, 2, 20, 2), (2, 20, 2, 1)):
            for length in (50, 499, 500):
                row = drawn_row(source, length, weights)
                self.assertEqual(read(shown(row)), row)

    def test_all_short_texts_of_the_four_signs(self):
        for length in range(7):
            for signs in itertools.product(SIGNS, repeat=length):
                text = "".join(signs)
                row = [SIGNS[sign] for sign in reversed(signs)]
                if text == "0":
                    self.assertEqual(read(text), [])
                elif text != "" and calm_by_pairs(row):
                    self.assertEqual(read(text), row)
                    self.assertEqual(shown(read(text)), text)
                else:
                    self.refused(text)

    def test_the_empty_text(self):
        self.refused("")

    def test_another_sign(self):
        for sign in PROMISED:
            if sign not in SIGNS:
                self.refused(sign, sign + "1", "1" + sign, "1" + sign + "1", "0" + sign, sign + "0", sign * 2)
        self.refused("1 ", " 1", "1\n", "\n1", "1\t", "1\r\n", "+1", "3", "-3", "1x", "0\n", " 0", "0 ", "0x1", "1_0")

    def test_texts_that_begin_with_0(self):
        self.refused("00", "01", "02", "0-", "000", "0" * 500, "0" + "1" * 499, "010", "0-2")

    def test_texts_whose_row_is_not_calm(self):
        self.refused("22", "212", "2112", "1220", "-22", "2" + "1" * 498 + "2", "2" * 500)
        self.refused("--", "-0-", "-00-", "1--0", "2--", "-" + "0" * 498 + "-", "-" * 500)

    def test_texts_of_500_signs(self):
        self.assertEqual(read("1" * 500), [1] * 500)
        self.assertEqual(read("-2" * 250), [2, -1] * 250)
        self.assertEqual(read("2" + "0" * 499), [0] * 499 + [2])
        self.refused("1" * 499 + " ", " " + "1" * 499, "1" * 250 + "3" + "1" * 249, "x" * 500, "\n" * 500)

    def test_texts_somewhat_longer(self):
        self.assertEqual(read("1" * 510), [1] * 510)

    def test_a_new_list(self):
        for text in ("0", "1", "-2"):
            first = read(text)
            kept = list(first)
            first.append(2)
            self.assertEqual(read(text), kept)


if __name__ == "__main__":
    unittest.main()
