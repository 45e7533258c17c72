import itertools
import random
import re
import unittest

from runsums.errors import NoText
from runsums.sayings import Saying
from runsums.saytexts import read_saying, show_saying, term_text
from tests.making import by_chance, full, leaning, name, num, plus, power, times
from tests.samples import refusal

GREAT = "9" * 400

GOOD = [
    "0 = 0",
    "a under b",
    "under under under",
    "u = u1",
    "(a + 1) = (b * 20)",
    "(a ^ u) under (under ^ 0)",
    "((a + (1 * u)) ^ 305) = (7 + ((x0 * y1) + s))",
    "abcdefghij under z123456789",
]


class TestTermText(unittest.TestCase):
    def test_numbers(self):
        for number in (0, 1, 9, 10, 100, 12345):
            self.assertEqual(term_text(num(number)), str(number))
        self.assertEqual(term_text(num(10 ** 400 - 1)), GREAT)
        self.assertEqual(term_text(num(10 ** 399)), "1" + "0" * 399)

    def test_names(self):
        for text in ("a", "x0", "under", "abcdefghij", "z00"):
            self.assertEqual(term_text(name(text)), text)

    def test_each_sign(self):
        self.assertEqual(term_text(plus(name("a"), num(0))), "(a + 0)")
        self.assertEqual(term_text(times(num(0), name("a"))), "(0 * a)")
        self.assertEqual(term_text(power(num(2), name("a"))), "(2 ^ a)")

    def test_brackets(self):
        self.assertEqual(term_text(plus(plus(num(1), num(2)), num(3))), "((1 + 2) + 3)")
        self.assertEqual(term_text(plus(num(1), plus(num(2), num(3)))), "(1 + (2 + 3))")
        self.assertEqual(term_text(power(times(num(1), name("a")), plus(num(2), num(3)))), "((1 * a) ^ (2 + 3))")

    def test_deep_ones(self):
        for many in (100, 500):
            self.assertEqual(term_text(leaning(times, many, True)), "(" * many + "1" + " * 1)" * many)
            self.assertEqual(term_text(leaning(times, many, False)), "(1 * " * many + "1" + ")" * many)

    def test_by_names(self):
        self.assertEqual(term_text(term=num(5)), "5")


class TestShowSaying(unittest.TestCase):
    def test_both_words(self):
        self.assertEqual(show_saying(Saying("same", num(0), name("a"))), "0 = a")
        self.assertEqual(show_saying(Saying("under", name("a"), plus(num(1), num(2)))), "a under (1 + 2)")

    def test_numbers_of_400_figures(self):
        self.assertEqual(show_saying(Saying("same", num(10 ** 400 - 1), num(1))), GREAT + " = 1")

    def test_by_names(self):
        self.assertEqual(show_saying(saying=Saying("same", num(0), num(0))), "0 = 0")


class TestReadSaying(unittest.TestCase):
    def read_back(self, saying):
        text = show_saying(saying)
        told = read_saying(text)
        self.assertTrue(told == saying)
        self.assertEqual(show_saying(told), text)

    def test_tells_terms(self):
        told = read_saying("(a + 1) = (2 ^ (b * 30))")
        self.assertEqual(told.word, "same")
        self.assertEqual(told.left, plus(name("a"), num(1)))
        self.assertEqual(told.right, power(num(2), times(name("b"), num(30))))
        told = read_saying(text="under under u")
        self.assertEqual((told.word, told.left, told.right), ("under", name("under"), name("u")))

    def test_good_ones(self):
        for text in GOOD:
            self.assertEqual(show_saying(read_saying(text)), text)

    def test_numbers_and_names(self):
        for lone in [num(0), num(1), num(9), num(10), num(10 ** 399), num(10 ** 400 - 1), name("a"), name("u"),
                     name("un"), name("under"), name("unders"), name("abcdefghij"), name("a000000000")]:
            for word in ("same", "under"):
                self.read_back(Saying(word, lone, num(3)))
                self.read_back(Saying(word, num(3), lone))
                self.read_back(Saying(word, plus(lone, lone), times(lone, lone)))

    def test_deep_and_full_ones(self):
        for make in (plus, times, power):
            for many in (60, 100, 500):
                self.read_back(Saying("same", leaning(make, many, True), leaning(make, many, False)))
                self.read_back(Saying("under", leaning(make, many, False), leaning(make, many, True)))
        self.read_back(Saying("under", full(13), full(12)))

    def test_by_chance(self):
        chance = random.Random(14)
        for _ in range(300):
            word = chance.choice(["same", "under"])
            self.read_back(Saying(word, by_chance(chance, 6), by_chance(chance, 6)))


class TestNoText(unittest.TestCase):
    def wrong_at(self, text, at):
        with self.subTest(text=text[:80]):
            self.assertEqual(refusal(NoText, read_saying, text).at, at)

    def test_without_signs(self):
        self.wrong_at("", 0)

    def test_the_first_sign(self):
        for sign in " )+*^=A_-.\n/{~":
            self.wrong_at(sign, 0)
            self.wrong_at(sign + "0 = 0", 0)
            self.wrong_at("(" + sign, 1)
            self.wrong_at("(1 + " + sign, 5)
            self.wrong_at("0 = " + sign + "1", 4)

    def test_the_last_sign(self):
        for text in GOOD:
            for sign in " )+*^=A_-\n~(":
                self.wrong_at(text + sign, len(text))
        self.wrong_at("a = (1 + 2(", 10)
        self.wrong_at("a = (1 + 2 ", 10)
        self.wrong_at("a = (1 + 2)3", 11)

    def test_a_nought_ahead(self):
        self.wrong_at("01", 1)
        self.wrong_at("01 = 1", 1)
        self.wrong_at("00 = 0", 1)
        self.wrong_at("1 = 00", 5)
        self.wrong_at("1 = 01", 5)
        self.wrong_at("(1 + 02) = 3", 6)
        self.wrong_at("0a = 3", 1)

    def test_names_that_are_too_long(self):
        self.wrong_at("abcdefghijk = 1", 10)
        self.wrong_at("abcdefghij1 = 1", 10)
        self.wrong_at("1 under a0123456789", 18)
        self.wrong_at("(b + abcdefghijk) = 1", 15)

    def test_numbers_that_are_too_long(self):
        self.wrong_at(GREAT + "9 = 1", 400)
        self.wrong_at(GREAT + "a = 1", 400)
        self.wrong_at("1 = " + GREAT + "0", 404)
        self.wrong_at("(1 * " + "1" * 500 + ") = 1", 405)

    def test_great_letters(self):
        self.wrong_at("A = 1", 0)
        self.wrong_at("aB = 1", 1)
        self.wrong_at("a Under 1", 2)
        self.wrong_at("a uNder 1", 3)
        self.wrong_at("a under B", 8)
        self.wrong_at("1x = 1", 1)

    def test_blanks(self):
        self.wrong_at(" a = 1", 0)
        self.wrong_at("a  = 1", 2)
        self.wrong_at("a =  1", 4)
        self.wrong_at("a = 1 ", 5)
        self.wrong_at("a= 1", 1)
        self.wrong_at("a =1", 3)
        self.wrong_at("a=1", 1)
        self.wrong_at("( a + 1) = 1", 1)
        self.wrong_at("(a  + 1) = 1", 3)
        self.wrong_at("(a +  1) = 1", 5)
        self.wrong_at("(a + 1 ) = 1", 6)
        self.wrong_at("(a+ 1) = 1", 2)
        self.wrong_at("(a +1) = 1", 4)
        self.wrong_at("(a + 1)= 1", 7)
        self.wrong_at("a under  1", 8)
        self.wrong_at("a under1", 7)
        self.wrong_at("(a + 1)under 1", 7)
        self.wrong_at("a\t= 1", 1)
        self.wrong_at("1 2 = 3", 2)

    def test_brackets(self):
        self.wrong_at("(a) = 1", 2)
        self.wrong_at("((a + 1) = 1", 9)
        self.wrong_at("(a + 1)) = 1", 7)
        self.wrong_at("(a + 1 = 1", 6)
        self.wrong_at("a + 1) = 1", 2)
        self.wrong_at("a + 1 = 1", 2)
        self.wrong_at("() = 1", 1)
        self.wrong_at("(a + 1 + 2) = 1", 6)
        self.wrong_at("(a = 1)", 3)
        self.wrong_at("(a = 1) = 1", 3)
        self.wrong_at("(a under 1)", 3)
        self.wrong_at("(a - 1) = 1", 3)
        self.wrong_at("(a / 1) = 1", 3)
        self.wrong_at("a = 1)", 5)
        self.wrong_at("(" * 60, 60)
        self.wrong_at("(" * 60 + "1" + ")" * 60, 61)

    def test_under_cut(self):
        for cut in range(1, 6):
            text = "a " + "under"[:cut]
            self.wrong_at(text, len(text))
            for sign in " zuA=1(\n":
                if sign != "under "[cut]:
                    self.wrong_at(text + sign, len(text))
                    self.wrong_at(text + sign + "1", len(text))
        self.wrong_at("(a + 1) unter 3", 10)

    def test_both_marks(self):
        self.wrong_at("a = under b", 9)
        self.wrong_at("a under = b", 8)
        self.wrong_at("a = = b", 4)
        self.wrong_at("a = b = c", 5)
        self.wrong_at("a = b under c", 5)
        self.wrong_at("a under b = c", 9)
        self.wrong_at("a == b", 3)
        self.wrong_at("a under under b", 13)

    def test_names_that_begin_as_under_does(self):
        self.wrong_at("u", 1)
        self.wrong_at("under", 5)
        self.wrong_at("under under", 11)
        self.wrong_at("under under ", 12)
        self.wrong_at("under 1", 6)
        self.wrong_at("u u", 3)
        self.wrong_at("u u 1", 3)
        self.wrong_at("under unter", 8)

    def test_line_feeds(self):
        self.wrong_at("\n", 0)
        self.wrong_at("a\n= 1", 1)
        self.wrong_at("a =\n1", 3)
        self.wrong_at("a = 1\n", 5)
        self.wrong_at("a = 1\nb = 2", 5)
        self.wrong_at("a un\nder 1", 4)

    def test_cut_at_every_place(self):
        """A good text that is cut ends too early, but where what is left of its last sign is good."""
        for text in GOOD:
            for cut in range(len(text)):
                with self.subTest(text=text, cut=cut):
                    if is_good(text[:cut]):
                        self.assertEqual(show_saying(read_saying(text[:cut])), text[:cut])
                    else:
                        self.wrong_at(text[:cut], cut)

    def test_6000_signs(self):
        self.wrong_at("a" * 6000, 10)
        self.wrong_at("1" * 6000, 400)
        self.wrong_at(" " * 6000, 0)
        text = "(1 + " * 60 + "1" + ")" * 60
        while len(text) < 5900:
            text = "(" + text + " * " + GREAT + ")"
        self.wrong_at(text + " = 1)", len(text) + 4)
        self.wrong_at(text + " under", len(text) + 6)


# What goes on is told in these tests in another way than by reading sign by sign: a text goes
# on where, with one of a few tails, it is a good one.

LONE = re.compile("(?<![a-z0-9])(0|[1-9][0-9]{0,399}|[a-z][a-z0-9]{0,9})(?![a-z0-9])")


def is_good_term(text):
    if "T" in text:
        return False
    rest, ahead = LONE.sub("T", text), None
    while rest != ahead:
        rest, ahead = re.sub(r"\(T [+*^] T\)", "T", rest), rest
    return rest == "T"


def is_good(text):
    for mark in (" = ", " under "):
        for at in [found.start() for found in re.finditer("(?=" + mark + ")", text)]:
            if is_good_term(text[:at]) and is_good_term(text[at + len(mark):]):
                return True
    return False


def goes_on(text):
    due = text.count("(") - text.count(")")
    if due < 0:
        return False
    closings = ["".join(some) for some in itertools.product([")", " + 0)"], repeat=due)]
    ends = ["", " = 0", "= 0", " 0", "0", "nder 0", "der 0", "er 0", "r 0"]
    for head in ["", "0", " 0", "+ 0"]:
        for closing in closings:
            if any(is_good(text + head + closing + end) for end in ends):
                return True
    return False


def expected_at(text):
    for at in range(len(text)):
        if not goes_on(text[:at + 1]):
            return at
    return len(text)


class TestAgainstAnotherReader(unittest.TestCase):
    def test_the_other_reader(self):
        self.assertTrue(all(is_good(text) and goes_on(text) for text in GOOD))
        self.assertFalse(is_good("01 = 1") or is_good("(a) = 1") or is_good("a under"))

    def look_at(self, text):
        with self.subTest(text=text):
            if is_good(text):
                self.assertEqual(show_saying(read_saying(text)), text)
            else:
                self.assertEqual(refusal(NoText, read_saying, text).at, expected_at(text))

    def test_one_sign_otherwise(self):
        chance = random.Random(5)
        for text in GOOD:
            for at in range(len(text) + 1):
                for sign in chance.sample("01au=+*^() \nnderAz", 5):
                    self.look_at(text[:at] + sign + text[at:])
                    self.look_at(text[:at] + sign + text[at + 1:])
                self.look_at(text[:at] + text[at + 1:])
                self.look_at(text[:at] + text[at:at + 1] + text[at:])

    def test_all_short_ones(self):
        for many in range(6):
            for signs in itertools.product("0u= (", repeat=many):
                self.look_at("".join(signs))


if __name__ == "__main__":
    unittest.main()
