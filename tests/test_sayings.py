import unittest

from runsums.errors import NoWord
from runsums.sayings import Saying, names_in, names_in_all
from tests.making import full, leaning, name, num, plus, power, same, times, under
from tests.samples import refusal

ONE = plus(name("a"), times(num(2), power(name("b"), num(3))))
OTHER = times(name("c"), num(10 ** 399))


class AlwaysEqual:
    """A thing that says of itself that it is equal to all."""

    def __eq__(self, other):
        return True

    def __ne__(self, other):
        return False


class TestFields(unittest.TestCase):
    def test_fields(self):
        for word in ("same", "under"):
            saying = Saying(word, ONE, OTHER)
            self.assertEqual((saying.word, saying.left, saying.right), (word, ONE, OTHER))

    def test_by_names(self):
        saying = Saying(right=OTHER, left=ONE, word="under")
        self.assertEqual((saying.word, saying.left, saying.right), ("under", ONE, OTHER))

    def test_no_word(self):
        for word in ["", "Same", "SAME", "same ", " same", "sam", "samee", "under ", "over", "=", "same\n", "none",
                     "left", "plus"]:
            with self.subTest(word=word):
                self.assertEqual(refusal(NoWord, Saying, word, ONE, OTHER).word, word)


class TestEquality(unittest.TestCase):
    def equal(self, one, other):
        self.assertIs(one == other, True)
        self.assertIs(other == one, True)
        self.assertIs(one != other, False)
        self.assertIs(other != one, False)

    def unequal(self, one, other):
        self.assertIs(one == other, False)
        self.assertIs(other == one, False)
        self.assertIs(one != other, True)
        self.assertIs(other != one, True)

    def test_made_anew(self):
        for make in (same, under):
            self.equal(make(ONE, OTHER), make(ONE, OTHER))
            anew = plus(name("".join(["a"])), times(num(int("2")), power(name("b"), num(3))))
            self.equal(make(ONE, num(0)), make(anew, num(0)))
            self.equal(make(num(0), ONE), make(num(0), anew))

    def test_the_other_word(self):
        self.unequal(same(ONE, OTHER), under(ONE, OTHER))
        self.unequal(same(ONE, ONE), under(ONE, ONE))

    def test_sides_exchanged(self):
        for make in (same, under):
            self.unequal(make(ONE, OTHER), make(OTHER, ONE))

    def test_otherwise_in_one_place(self):
        others = [
            plus(name("z"), times(num(2), power(name("b"), num(3)))),
            plus(name("a"), times(num(3), power(name("b"), num(3)))),
            plus(name("a"), times(num(2), power(name("z"), num(3)))),
            plus(name("a"), times(num(2), power(name("b"), num(4)))),
            plus(name("a"), times(num(2), power(num(3), name("b")))),
            plus(name("a"), times(num(2), times(name("b"), num(3)))),
            plus(name("a"), plus(num(2), power(name("b"), num(3)))),
            times(name("a"), times(num(2), power(name("b"), num(3)))),
            plus(name("a"), times(num(2), num(3))),
            plus(name("a"), num(2)),
            name("a"),
        ]
        for make in (same, under):
            for other in others:
                with self.subTest(other=other):
                    self.unequal(make(ONE, OTHER), make(other, OTHER))
                    self.unequal(make(OTHER, ONE), make(OTHER, other))

    def test_names_and_numbers(self):
        self.unequal(same(num(0), num(0)), same(name("a"), num(0)))
        self.unequal(same(num(1), name("a")), same(num(1), name("aa")))
        self.unequal(same(num(10 ** 399), num(0)), same(num(10 ** 399 + 1), num(0)))

    def test_things_of_other_kinds(self):
        saying = same(num(0), num(0))
        for other in [None, True, False, 0, "0 = 0", "", (), [], ("same", num(0), num(0)), {}, object(), Saying,
                      [saying], (saying,)]:
            self.unequal(saying, other)
        self.assertIs(saying == AlwaysEqual(), False)

    def test_deep_ones(self):
        for many in (100, 500):
            for make in (plus, times, power):
                for left in (True, False):
                    term, anew = leaning(make, many, left), leaning(make, many, left)
                    other = leaning(make, many, left, num(2))
                    short = leaning(make, many - 1, left)
                    self.equal(same(term, num(1)), same(anew, num(1)))
                    self.equal(under(num(1), term), under(num(1), anew))
                    for unlike in (other, short):
                        self.unequal(same(term, num(1)), same(unlike, num(1)))
                        self.unequal(under(num(1), term), under(num(1), unlike))


class TestTexts(unittest.TestCase):
    def test_str(self):
        self.assertEqual(str(same(num(0), num(0))), "0 = 0")
        self.assertEqual(str(under(name("a"), num(12))), "a under 12")
        self.assertEqual(str(same(ONE, name("x0"))), "(a + (2 * (b ^ 3))) = x0")
        self.assertEqual(str(under(name("x0"), ONE)), "x0 under (a + (2 * (b ^ 3)))")

    def test_repr(self):
        self.assertEqual(repr(same(num(0), num(0))), "Saying(0 = 0)")
        self.assertEqual(repr(under(ONE, name("under"))), "Saying((a + (2 * (b ^ 3))) under under)")

    def test_deep_ones(self):
        for many in (100, 500):
            left = "(" * many + "1" + " ^ 1)" * many
            right = "(1 ^ " * many + "1" + ")" * many
            saying = same(leaning(power, many, True), leaning(power, many, False))
            self.assertEqual(str(saying), left + " = " + right)
            self.assertEqual(repr(saying), "Saying(" + left + " = " + right + ")")


class TestNamesIn(unittest.TestCase):
    def test_none(self):
        self.assertEqual(names_in(same(num(0), plus(num(1), num(2)))), [])
        self.assertEqual(names_in_all([]), [])
        self.assertEqual(names_in_all(()), [])
        self.assertEqual(names_in_all([same(num(0), num(1)), under(num(2), num(3))]), [])

    def test_sorted_and_each_once(self):
        saying = under(plus(name("z"), times(name("b10"), name("z"))), power(name("b2"), plus(name("a"), name("b"))))
        self.assertEqual(names_in(saying), ["a", "b", "b10", "b2", "z"])
        self.assertEqual(names_in(same(name("a"), name("a"))), ["a"])
        self.assertEqual(names_in(same(name("y"), num(1))), ["y"])
        self.assertEqual(names_in(same(num(1), name("y"))), ["y"])

    def test_words_are_no_names(self):
        self.assertEqual(names_in(under(power(num(1), name("num")), name("plus"))), ["num", "plus"])

    def test_of_several(self):
        sayings = [same(name("z"), num(1)), under(name("b"), name("z")), same(num(2), plus(name("a"), name("b")))]
        self.assertEqual(names_in_all(sayings), ["a", "b", "z"])
        self.assertEqual(names_in_all(tuple(sayings)), ["a", "b", "z"])
        self.assertEqual(names_in_all(sayings[:1]), ["z"])

    def test_of_100(self):
        sayings = [same(name(f"n{k}"), name(f"m{k % 7}")) for k in range(100)]
        self.assertEqual(names_in_all(sayings), sorted([f"n{k}" for k in range(100)] + [f"m{k}" for k in range(7)]))

    def test_the_lists_are_new(self):
        saying = same(name("b"), name("a"))
        sayings = [saying, saying]
        first, second = names_in(saying), names_in_all(sayings)
        first.append("z")
        second.clear()
        self.assertEqual(names_in(saying), ["a", "b"])
        self.assertEqual(names_in_all(sayings), ["a", "b"])
        self.assertEqual(sayings, [saying, saying])
        self.assertIs(type(names_in_all(())), list)

    def test_deep_and_full_ones(self):
        for left in (True, False):
            saying = same(leaning(plus, 500, left, name("q")), leaning(times, 500, not left, name("p")))
            self.assertEqual(names_in(saying), ["p", "q"])
        self.assertEqual(names_in(under(full(10), name("a"))), ["a"])

    def test_by_names(self):
        saying = same(name("b"), name("a"))
        self.assertEqual(names_in(saying=saying), ["a", "b"])
        self.assertEqual(names_in_all(sayings=[saying]), ["a", "b"])


if __name__ == "__main__":
    unittest.main()
