import unittest

from runsums.bits import bits_of, fits, how_many, of_bits, stands_out
from runsums.errors import NoText
from tests.samples import refusal

GREAT = 10 ** 800 - 1
NUMBERS = list(range(40)) + [255, 256, 2 ** 40 - 1, 2 ** 40, 10 ** 400, GREAT - 1, GREAT]


def no_text_at(text):
    return refusal(NoText, of_bits, text).at


def places(number):
    """The places in which the number has a 1."""
    return {k for k in range(number.bit_length()) if number >> k & 1}


class TestBitsOf(unittest.TestCase):
    def test_few(self):
        self.assertEqual([bits_of(k) for k in range(9)],
                         ["0", "1", "10", "11", "100", "101", "110", "111", "1000"])

    def test_each_number(self):
        for number in NUMBERS:
            self.assertEqual(bits_of(number), bin(number)[2:])
            self.assertEqual(of_bits(bits_of(number)), number)

    def test_by_names(self):
        self.assertEqual(bits_of(number=10), "1010")


class TestOfBits(unittest.TestCase):
    def test_few(self):
        self.assertEqual(of_bits("0"), 0)
        self.assertEqual(of_bits("1"), 1)
        self.assertEqual(of_bits("1010"), 10)

    def test_noughts_ahead(self):
        self.assertEqual(of_bits("00"), 0)
        self.assertEqual(of_bits("0001010"), 10)
        for number in NUMBERS:
            self.assertEqual(of_bits("0" * 20 + bits_of(number)), number)

    def test_texts_of_6000_signs(self):
        self.assertEqual(of_bits("0" * 6000), 0)
        self.assertEqual(of_bits("0" * 5999 + "1"), 1)
        self.assertEqual(of_bits("1" * 6000), 2 ** 6000 - 1)
        self.assertEqual(bits_of(2 ** 5999 + 1), "1" + "0" * 5998 + "1")

    def test_the_text_without_signs(self):
        self.assertEqual(no_text_at(""), 0)

    def test_other_signs_at_the_first_a_middle_and_the_last_place(self):
        for sign in [" ", "\n", "2", "9", "+", "-", "_", "b", "a", ".", "\t", "\u0661", "\uff11"]:
            for bits in ("1", "0", "10110", "0" * 3000 + "1" * 2999):
                for at in (0, len(bits) // 2, len(bits)):
                    with self.subTest(sign=sign, bits=bits[:5], at=at):
                        self.assertEqual(no_text_at(bits[:at] + sign + bits[at:]), at)
            self.assertEqual(no_text_at(sign), 0)

    def test_each_other_sign(self):
        for sign in map(chr, range(32, 127)):
            if sign not in ("0", "1"):
                self.assertEqual(no_text_at(sign), 0)
                self.assertEqual(no_text_at("101" + sign + "1"), 3)

    def test_what_python_would_read(self):
        self.assertEqual(no_text_at("0b101"), 1)
        self.assertEqual(no_text_at("1_0"), 1)
        self.assertEqual(no_text_at(" 101"), 0)
        self.assertEqual(no_text_at("101\n"), 3)

    def test_the_first_of_several(self):
        self.assertEqual(no_text_at("1012 3"), 3)
        self.assertEqual(no_text_at("  "), 0)

    def test_by_names(self):
        self.assertEqual(of_bits(text="1010"), 10)


class TestFits(unittest.TestCase):
    def test_few(self):
        self.assertIs(fits(0, 0), True)
        self.assertIs(fits(0, 5), True)
        self.assertIs(fits(5, 0), False)
        self.assertIs(fits(5, 5), True)
        self.assertIs(fits(5, 7), True)
        self.assertIs(fits(7, 5), False)
        self.assertIs(fits(4, 3), False)
        self.assertIs(fits(3, 4), False)

    def test_one_bit_more(self):
        for number in NUMBERS:
            for place in (0, 1, 5, 40, 2657):
                self.assertTrue(fits(number, number | 1 << place))
                if not number >> place & 1:
                    self.assertFalse(fits(number | 1 << place, number))

    def test_each_pair_both_ways_about(self):
        for one in NUMBERS:
            for other in NUMBERS:
                self.assertIs(fits(one, other), places(one) <= places(other))

    def test_by_names(self):
        self.assertTrue(fits(other=7, one=5))
        self.assertFalse(fits(other=5, one=7))


class TestStandsOut(unittest.TestCase):
    def test_few(self):
        self.assertEqual(stands_out(0, 0), 0)
        self.assertEqual(stands_out(0, 5), 0)
        self.assertEqual(stands_out(5, 0), 5)
        self.assertEqual(stands_out(5, 5), 0)
        self.assertEqual(stands_out(7, 5), 2)
        self.assertEqual(stands_out(5, 7), 0)
        self.assertEqual(stands_out(12, 10), 4)
        self.assertEqual(stands_out(10, 12), 2)

    def test_each_pair_both_ways_about(self):
        for one in NUMBERS:
            for other in NUMBERS:
                self.assertEqual(places(stands_out(one, other)), places(one) - places(other))

    def test_nought_just_where_it_fits(self):
        for one in NUMBERS:
            for other in NUMBERS:
                self.assertIs(fits(one, other), stands_out(one, other) == 0)

    def test_by_names(self):
        self.assertEqual(stands_out(other=5, one=7), 2)


class TestHowMany(unittest.TestCase):
    def test_few(self):
        self.assertEqual([how_many(k) for k in range(9)], [0, 1, 1, 2, 1, 2, 2, 3, 1])

    def test_each_number(self):
        for number in NUMBERS:
            self.assertEqual(how_many(number), len(places(number)))
        self.assertEqual(how_many(2 ** 2657 - 1), 2657)
        self.assertEqual(how_many(2 ** 2657), 1)

    def test_by_names(self):
        self.assertEqual(how_many(number=7), 3)


if __name__ == "__main__":
    unittest.main()
