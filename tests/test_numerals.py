import unittest

from runsums.numerals import is_numeral, numeral
from runsums.saytexts import show_saying, term_text
from runsums.sayings import Saying


class TestIsNumeral(unittest.TestCase):
    def test_numerals(self):
        for text in ("0", "1", "9", "10", "100", "999"):
            self.assertIs(is_numeral(text, 3), True)
        self.assertIs(is_numeral("9" * 400, 400), True)

    def test_none(self):
        for text in ("", "00", "01", "010", "1000", "-1", "+1", " 1", "1 ", "1_0", "0x1", "a", "1a", "\u0661", "\u00b2",
                     "1\n", "1.0"):
            self.assertIs(is_numeral(text, 3), False)
        self.assertIs(is_numeral("9" * 401, 400), False)


class TestNumeral(unittest.TestCase):
    def test_short_ones(self):
        for number in (0, 1, 9, 10, 10 ** 399, 10 ** 800 - 1):
            self.assertEqual(numeral(number), str(number))

    def test_long_ones(self):
        """Known by how they are written, as they are too long for Python to write."""
        for many in (3612, 3613, 3999, 4000, 4001, 4300, 4301, 7999, 8000, 8001, 20000):
            self.assertEqual(numeral(10 ** many), "1" + "0" * many)
            self.assertEqual(numeral(10 ** many - 1), "9" * many)
            self.assertEqual(numeral(10 ** many + 7), "1" + "0" * (many - 1) + "7")

    def test_in_terms(self):
        great = ("num", 10 ** 9000)
        self.assertEqual(term_text(("plus", great, ("name", "a"))), "(1" + "0" * 9000 + " + a)")
        self.assertEqual(show_saying(Saying("same", great, great)), " = ".join(["1" + "0" * 9000] * 2))


if __name__ == "__main__":
    unittest.main()
