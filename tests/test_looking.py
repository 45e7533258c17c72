import random
import unittest

from runsums.errors import NoNumber, TooGreat
from runsums.looking import far_off, first_wrong, holds, off
from runsums.sayings import Saying
from tests.making import name, num, plus, power, same, times, under
from tests.samples import refusal

MOST = 1000000
GREAT = power(num(2), num(MOST))
MISSING = name("z")
TRUE = same(num(1), num(1))
FALSE = same(num(1), num(2))


class TestHolds(unittest.TestCase):
    def test_same(self):
        self.assertIs(holds(same(plus(name("a"), num(1)), num(6)), {"a": 5}), True)
        self.assertIs(holds(same(plus(name("a"), num(1)), num(6)), {"a": 6}), False)
        self.assertIs(holds(same(num(6), num(5)), {}), False)
        self.assertIs(holds(same(num(0), num(0)), {}), True)

    def test_under(self):
        for one in range(17):
            for other in range(17):
                self.assertIs(holds(under(num(one), name("b")), {"b": other}), one & other == one)

    def test_800_figures_alike_but_for_a_bit(self):
        great = 10 ** 800 - 1
        for bit in (0, 1, 1000, 2656):
            answer = {"a": great, "b": great ^ (1 << bit)}
            more, less = ("a", "b") if great >> bit & 1 else ("b", "a")
            self.assertIs(holds(same(name("a"), name("b")), answer), False)
            self.assertIs(holds(same(name("a"), name("a")), answer), True)
            self.assertIs(holds(under(name(less), name(more)), answer), True)
            self.assertIs(holds(under(name(more), name(less)), answer), False)
            self.assertEqual(off(same(name("a"), name("b")), answer), 4 ** bit)
            self.assertEqual(off(under(name(more), name(less)), answer), 4 ** bit)
            self.assertEqual(off(under(name(less), name(more)), answer), 0)

    def test_by_names(self):
        self.assertIs(holds(answer={}, saying=TRUE), True)


class TestFirstWrong(unittest.TestCase):
    def test_no_sayings(self):
        self.assertIsNone(first_wrong([], {}))
        self.assertIsNone(first_wrong((), {"a": 1}))

    def test_all_hold(self):
        self.assertIsNone(first_wrong([TRUE], {}))
        self.assertIsNone(first_wrong([TRUE, under(num(2), name("a")), TRUE], {"a": 6}))

    def test_the_first_one(self):
        for at in range(5):
            for form in (list, tuple):
                self.assertEqual(first_wrong(form([TRUE] * at + [FALSE, TRUE, FALSE]), {}), at)
                self.assertEqual(first_wrong(form([TRUE] * at + [under(num(1), num(6))]), {}), at)

    def test_100(self):
        sayings = [same(name(f"n{k}"), num(k)) for k in range(100)]
        answer = {f"n{k}": k for k in range(100)}
        self.assertIsNone(first_wrong(sayings, answer))
        answer["n99"] = 0
        self.assertEqual(first_wrong(sayings, answer), 99)

    def test_nothing_behind_is_looked_at(self):
        self.assertEqual(first_wrong([TRUE, FALSE, same(MISSING, num(1))], {}), 1)
        self.assertEqual(first_wrong([FALSE, same(GREAT, num(1))], {}), 0)
        self.assertEqual(refusal(NoNumber, first_wrong, [TRUE, same(MISSING, num(1)), FALSE], {}).name, "z")
        self.assertEqual(refusal(TooGreat, first_wrong, [TRUE, same(GREAT, num(1)), FALSE], {}).most, MOST)

    def test_by_names(self):
        self.assertEqual(first_wrong(answer={}, sayings=[FALSE]), 0)


class TestOff(unittest.TestCase):
    def test_same(self):
        self.assertEqual(off(same(num(7), num(4)), {}), 9)
        self.assertEqual(off(same(num(4), num(7)), {}), 9)
        self.assertEqual(off(same(num(4), name("a")), {"a": 4}), 0)

    def test_under(self):
        self.assertEqual(off(under(num(0b1101), num(0b0110)), {}), 0b1001 ** 2)
        self.assertEqual(off(under(num(0b0110), num(0b1101)), {}), 4)
        self.assertEqual(off(under(num(0b0100), num(0b1101)), {}), 0)
        self.assertEqual(off(under(num(0), num(0)), {}), 0)

    def test_nought_just_where_it_holds(self):
        for one in range(17):
            for other in range(17):
                for saying in (same(num(one), num(other)), under(num(one), num(other))):
                    self.assertIs(off(saying, {}) == 0, holds(saying, {}))
                self.assertEqual(off(under(num(one), num(other)), {}), (one & ~other) ** 2)

    def test_by_names(self):
        self.assertEqual(off(answer={}, saying=FALSE), 1)


class TestFarOff(unittest.TestCase):
    def test_no_sayings(self):
        self.assertEqual(far_off([], {}), 0)
        self.assertEqual(far_off((), {}), 0)

    def test_the_sum(self):
        sayings = [same(num(1), num(4)), TRUE, under(num(6), name("a")), FALSE]
        self.assertEqual(far_off(sayings, {"a": 3}), 9 + 16 + 1)
        self.assertEqual(far_off(tuple(sayings), {"a": 3}), 26)
        self.assertEqual(far_off([TRUE, TRUE], {}), 0)

    def test_nought_just_where_all_hold(self):
        chance = random.Random(19)
        for _ in range(300):
            sayings = [Saying(chance.choice(["same", "under"]), num(chance.randrange(3)), num(chance.randrange(3)))
                       for _ in range(chance.randrange(5))]
            self.assertIs(far_off(sayings, {}) == 0, first_wrong(sayings, {}) is None)
            self.assertEqual(far_off(sayings, {}), sum(off(saying, {}) for saying in sayings))

    def test_all_are_looked_at(self):
        self.assertEqual(refusal(NoNumber, far_off, [FALSE, same(MISSING, num(1))], {}).name, "z")
        self.assertEqual(refusal(TooGreat, far_off, [FALSE, same(GREAT, num(1))], {}).most, MOST)
        self.assertEqual(refusal(NoNumber, far_off, [same(MISSING, num(1)), same(GREAT, num(1))], {}).name, "z")
        self.assertEqual(refusal(TooGreat, far_off, [same(GREAT, num(1)), same(MISSING, num(1))], {}).most, MOST)

    def test_more_bits_than_terms_may_have(self):
        """Squares and sums of any number of bits."""
        answer = {"a": 2 ** (MOST - 1), "b": 2 ** MOST - 1}
        square = 2 ** (2 * MOST - 2)
        # Not by assertEqual, which would write both numbers out where they are not the same.
        for saying in (same(name("a"), num(0)), same(num(0), name("a")), under(name("a"), num(0))):
            self.assertTrue(off(saying, answer) == square)
            self.assertTrue(far_off([saying, saying, FALSE], answer) == 2 * square + 1)
        self.assertTrue(off(same(num(0), name("b")), answer) == answer["b"] ** 2)

    def test_by_names(self):
        self.assertEqual(far_off(answer={}, sayings=[FALSE]), 1)


class TestRefusals(unittest.TestCase):
    def test_the_left_side_goes_ahead(self):
        for make in (same, under):
            for look in (holds, off, lambda saying, answer: first_wrong([saying], answer),
                         lambda saying, answer: far_off([saying], answer)):
                self.assertEqual(refusal(NoNumber, look, make(MISSING, GREAT), {}).name, "z")
                self.assertEqual(refusal(TooGreat, look, make(GREAT, MISSING), {}).most, MOST)
                self.assertEqual(refusal(NoNumber, look, make(MISSING, name("a")), {}).name, "z")
                self.assertEqual(refusal(NoNumber, look, make(name("a"), MISSING), {"a": 1}).name, "z")
                self.assertEqual(refusal(TooGreat, look, make(num(0), GREAT), {}).most, MOST)
                self.assertEqual(refusal(NoNumber, look, make(num(0), MISSING), {}).name, "z")
                self.assertEqual(refusal(TooGreat, look, make(GREAT, GREAT), {}).most, MOST)


class TestWhatIsHandedInStays(unittest.TestCase):
    def test_it_stays(self):
        sayings = [same(plus(name("a"), num(1)), times(name("b"), num(2))), under(name("b"), name("a"))]
        kept = list(sayings)
        answer = {"b": 3, "a": 5}
        self.assertEqual((first_wrong(sayings, answer), far_off(sayings, answer)), (1, 4))
        self.assertEqual((holds(sayings[0], answer), off(sayings[1], answer)), (True, 4))
        self.assertEqual(sayings, kept)
        self.assertEqual(list(answer.items()), [("b", 3), ("a", 5)])


if __name__ == "__main__":
    unittest.main()
