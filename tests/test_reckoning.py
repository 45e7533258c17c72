import math
import time
import unittest

from runsums.answers import answer_of
from runsums.errors import TooGreat, Wrong
from runsums.looking import far_off, first_wrong, holds, off
from runsums.reading import run_of
from runsums.sayings import Saying
from runsums.terms import worth
from tests.making import name, num, plus, power, times
from tests.samples import move, refusal

MOST = 1000000
GREAT = 10 ** 399 + 7

# Far more than it takes to refuse so many terms unreckoned, far less than to reckon them.
MANY = 400
SECONDS = 2


def greatest_cube_root(number):
    """The greatest number of which the cube is not greater, by Newton down from that of the upper half of the bits."""
    if number < 8:
        return 1
    half = max(1, number.bit_length() // 6)
    root = (greatest_cube_root(number >> 3 * half) + 1) << half
    while True:
        less = (2 * root + number // root ** 2) // 3
        if less >= root:
            return root
        root = less


class TestAheadOfReckoning(unittest.TestCase):
    def refused_at_once(self, look, *args):
        begun = time.perf_counter()
        for _ in range(MANY):
            self.assertEqual(refusal(TooGreat, look, *args).most, MOST)
        self.assertLess(time.perf_counter() - begun, SECONDS)

    def test_powers(self):
        for base, exponent in [(2, MOST), (3, 10 ** 18 + 1), (3, 10 ** 399), (3, MOST), (3, MOST - 1), (3, 630930),
                               (GREAT, GREAT), (GREAT, 755), (2 ** 1000 + 1, 1000), (2 ** 1000, 1000),
                               (2 ** 1328, MOST), (2 ** 500000, 2), (3 << 499999, 2), (2 ** 500001 - 1, 2)]:
            with self.subTest(bits=base.bit_length(), exponent=exponent):
                self.refused_at_once(worth, power(num(base), num(exponent)), {})
                self.refused_at_once(worth, power(name("a"), name("b")), {"a": base, "b": exponent})

    def test_powers_of_the_greatest(self):
        answer = {"a": 2 ** MOST - 1}
        for term in [power(name("a"), num(2)), power(num(2), name("a")), power(name("a"), name("a"))]:
            self.refused_at_once(worth, term, answer)

    def test_products(self):
        for one, other in [(3 << 499998, 3 << 499999), (2 ** 500000, 2 ** 500000), (2 ** 500001 - 1, 2 ** 500000 - 1),
                           (2 ** MOST - 1, 2), (2 ** MOST - 1, 2 ** MOST - 1)]:
            self.refused_at_once(worth, times(name("a"), name("b")), {"a": one, "b": other})
            self.refused_at_once(worth, times(name("a"), name("b")), {"a": other, "b": one})

    def test_sums_and_lone_ones(self):
        answer = {"a": 2 ** (MOST - 1), "b": 2 ** MOST}
        for term in [plus(name("a"), name("a")), name("b"), num(2 ** MOST), plus(num(1), name("b"))]:
            self.refused_at_once(worth, term, answer)

    def test_within_others(self):
        inner = power(num(GREAT), num(GREAT))
        for make in (plus, times, power):
            self.refused_at_once(worth, make(inner, num(0)), {})
            self.refused_at_once(worth, make(num(1), make(num(3), inner)), {})

    def test_sayings(self):
        great = power(num(3), num(630930))
        for word in ("same", "under"):
            for saying in (Saying(word, great, num(1)), Saying(word, num(1), great)):
                self.refused_at_once(holds, saying, {})
                self.refused_at_once(off, saying, {})
                self.refused_at_once(first_wrong, [saying], {})
                self.refused_at_once(far_off, [saying], {})

    def test_runs_read_back(self):
        answer = answer_of(move(), (1, 0))
        self.refused_at_once(run_of, move(), {**answer, "c": 10 ** 399})
        self.refused_at_once(run_of, move(), {**answer, "s": 10 ** 399})


class TestJustAtTheBound(unittest.TestCase):
    """Where it hangs on the last bits the number is reckoned, and told or refused as it comes out."""

    def told(self, term, answer, number):
        # Not by assertEqual, which would write both numbers out where they are not the same.
        self.assertTrue(worth(term, answer) == number)

    def refused(self, term, answer):
        self.assertEqual(refusal(TooGreat, worth, term, answer).most, MOST)

    def test_the_greatest_exponents(self):
        for base in (2, 3, 5, 6, 7, 10, 255, 257, 2 ** 64 - 1, 2 ** 64 + 1, GREAT, 2 ** 1000 - 1, 2 ** 1000 + 1):
            exponent = int((MOST - 2) / math.log2(base)) - 1
            number = base ** exponent
            while (number * base).bit_length() <= MOST:
                number *= base
                exponent += 1
            with self.subTest(bits=base.bit_length()):
                self.told(power(num(base), num(exponent)), {}, number)
                self.refused(power(num(base), num(exponent + 1)), {})

    def test_the_greatest_cube(self):
        root = greatest_cube_root(2 ** MOST - 1)
        self.assertEqual((root ** 3).bit_length(), MOST)
        self.assertEqual(((root + 1) ** 3).bit_length(), MOST + 1)
        self.told(power(name("a"), num(3)), {"a": root}, root ** 3)
        self.refused(power(name("a"), num(3)), {"a": root + 1})

    def test_products_that_hang_on_the_last_bits(self):
        half = 2 ** 500000
        self.told(times(name("a"), name("b")), {"a": half + 1, "b": half - 1}, 2 ** MOST - 1)
        self.told(times(name("b"), name("a")), {"a": half + 1, "b": half - 1}, 2 ** MOST - 1)
        self.refused(times(name("a"), name("b")), {"a": half + 2, "b": half - 1})
        self.refused(times(name("b"), name("a")), {"a": half + 2, "b": half - 1})
        self.told(times(name("a"), name("b")), {"a": 2 ** MOST - 1, "b": 1}, 2 ** MOST - 1)
        third = (2 ** MOST - 1) // 3
        self.told(times(name("a"), num(3)), {"a": third}, 2 ** MOST - 1)
        self.refused(times(name("a"), num(3)), {"a": third + 1})

    def test_0_and_1(self):
        answer = {"a": 2 ** MOST - 1, "b": 0, "c": 1}
        self.told(power(name("b"), name("a")), answer, 0)
        self.told(power(name("c"), name("a")), answer, 1)
        self.told(power(name("a"), name("b")), answer, 1)
        self.told(power(name("b"), name("b")), answer, 1)
        self.told(power(name("a"), name("c")), answer, answer["a"])
        self.told(times(name("a"), name("b")), answer, 0)
        self.told(times(name("b"), name("a")), answer, 0)


class TestReadBackAtTheBound(unittest.TestCase):
    def test_c(self):
        answer = answer_of(move(), (1, 0))
        self.assertEqual(refusal(Wrong, run_of, move(), {**answer, "c": MOST - 1}).at, 2)
        self.assertEqual(refusal(TooGreat, run_of, move(), {**answer, "c": MOST}).most, MOST)


if __name__ == "__main__":
    unittest.main()
