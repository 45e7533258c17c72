import random
import unittest

from runsums.errors import NoNumber, TooGreat
from runsums.terms import deep, is_name, parts, sum_of, worth
from tests.making import full, leaning, name, num, plus, power, times
from tests.samples import refusal

MOST = 1000000


class TestIsName(unittest.TestCase):
    def test_names(self):
        for text in ["a", "z", "x0", "s", "kta", "k99f", "abcdefghij", "a123456789", "z0z", "klm"]:
            with self.subTest(text=text):
                self.assertIs(is_name(text), True)

    def test_none(self):
        for text in ["", "0", "9a", "0123456789", "A", "aB", "Ab", "a_b", "_a", "a b", " a", "a ", "a\n", "\n", "a-",
                     "-a", "a.b", "a:", "`a", "a{", "a/", "\u00e4", "a\u00e4", "\u0661", "a\u0661", "a\u00b2"]:
            with self.subTest(text=text):
                self.assertIs(is_name(text), False)

    def test_how_many_signs(self):
        for many in range(1, 11):
            self.assertIs(is_name("a" * many), True)
            self.assertIs(is_name("a" + "7" * (many - 1)), True)
        for many in (11, 12, 100, 6000):
            self.assertIs(is_name("a" * many), False)

    def test_each_sign(self):
        for sign in map(chr, range(32, 127)):
            self.assertIs(is_name(sign), sign in "abcdefghijklmnopqrstuvwxyz")
            self.assertIs(is_name("q" + sign), sign in "abcdefghijklmnopqrstuvwxyz0123456789")
            self.assertIs(is_name("q" + sign + "q"), sign in "abcdefghijklmnopqrstuvwxyz0123456789")

    def test_by_names(self):
        self.assertTrue(is_name(text="x"))


class TestSumOf(unittest.TestCase):
    def test_none(self):
        self.assertEqual(sum_of([]), num(0))
        self.assertEqual(sum_of(()), num(0))

    def test_one(self):
        for term in [num(0), num(7), name("x"), times(num(2), name("x"))]:
            self.assertEqual(sum_of([term]), term)

    def test_several(self):
        a, b, c, d = name("a"), num(2), times(name("c"), num(3)), name("d")
        self.assertEqual(sum_of([a, b]), plus(a, b))
        self.assertEqual(sum_of([a, b, c]), plus(plus(a, b), c))
        self.assertEqual(sum_of((a, b, c, d)), plus(plus(plus(a, b), c), d))
        self.assertEqual(sum_of([b, b]), plus(b, b))

    def test_100(self):
        term = sum_of([num(k) for k in range(100)])
        self.assertEqual((parts(term), deep(term), worth(term, {})), (199, 99, 4950))

    def test_what_is_handed_in_stays(self):
        terms = [name("a"), num(2), name("c")]
        told = sum_of(terms)
        self.assertEqual(terms, [name("a"), num(2), name("c")])
        terms[0] = num(9)
        terms.append(num(1))
        self.assertEqual(told, plus(plus(name("a"), num(2)), name("c")))

    def test_by_names(self):
        self.assertEqual(sum_of(terms=[num(3)]), num(3))


class TestPartsAndDeep(unittest.TestCase):
    def test_lone_ones(self):
        for term in [num(0), num(10 ** 399), name("x"), name("abcdefghij")]:
            self.assertEqual((parts(term), deep(term)), (1, 0))

    def test_each_word(self):
        for make in (plus, times, power):
            self.assertEqual((parts(make(num(1), name("x"))), deep(make(num(1), name("x")))), (3, 1))

    def test_each_as_often_as_it_stands(self):
        inner = plus(name("x"), name("x"))
        self.assertEqual(parts(times(inner, inner)), 7)
        self.assertEqual(deep(times(inner, inner)), 2)

    def test_the_deeper_of_both(self):
        low, high = plus(num(1), num(2)), leaning(times, 6, True)
        self.assertEqual(deep(plus(low, high)), 7)
        self.assertEqual(deep(plus(high, low)), 7)
        self.assertEqual(parts(plus(low, high)), 17)

    def test_deep_on_either_side(self):
        for make in (plus, times, power):
            for left in (True, False):
                for many in (99, 100, 500):
                    term = leaning(make, many, left)
                    self.assertEqual((parts(term), deep(term)), (2 * many + 1, many))

    def test_full_ones(self):
        for depth in range(12):
            self.assertEqual((parts(full(depth)), deep(full(depth))), (2 ** (depth + 1) - 1, depth))

    def test_by_names(self):
        self.assertEqual((parts(term=num(1)), deep(term=num(1))), (1, 0))


class TestWorth(unittest.TestCase):
    def test_each_kind(self):
        answer = {"x": 5, "y": 0, "kta": 10 ** 900}
        self.assertEqual(worth(num(7), answer), 7)
        self.assertEqual(worth(num(0), {}), 0)
        self.assertEqual(worth(name("x"), answer), 5)
        self.assertEqual(worth(name("y"), answer), 0)
        self.assertEqual(worth(name("kta"), answer), 10 ** 900)
        self.assertEqual(worth(plus(name("x"), num(3)), answer), 8)
        self.assertEqual(worth(times(name("x"), num(3)), answer), 15)
        self.assertEqual(worth(power(name("x"), num(3)), answer), 125)
        self.assertEqual(worth(power(num(3), name("x")), answer), 243)

    def test_within_one_another(self):
        term = plus(times(name("x"), power(num(2), name("y"))), power(plus(name("x"), num(1)), num(2)))
        self.assertEqual(worth(term, {"x": 3, "y": 4}), 3 * 16 + 16)
        self.assertEqual(worth(power(num(2), power(num(3), num(2))), {}), 512)
        self.assertEqual(worth(power(power(num(2), num(3)), num(2)), {}), 64)

    def test_powers(self):
        for base in range(12):
            for exponent in range(40):
                self.assertEqual(worth(power(num(base), num(exponent)), {}), base ** exponent)

    def test_to_the_power_of_0(self):
        for base in (0, 1, 2, 10 ** 399):
            self.assertEqual(worth(power(num(base), num(0)), {}), 1)

    def test_sums_and_products_with_0(self):
        for number in (0, 1, 10 ** 399):
            self.assertEqual(worth(times(num(0), num(number)), {}), 0)
            self.assertEqual(worth(times(num(number), num(0)), {}), 0)
            self.assertEqual(worth(plus(num(0), num(number)), {}), number)

    def test_any_terms(self):
        """Terms put together by chance (of one seed) come to what Python makes of them."""
        chance = random.Random(7)
        answer = {"a": 0, "b": 1, "c": 6, "d": 10 ** 30}

        def made(depth):
            if depth == 0 or chance.random() < 0.2:
                text = chance.choice("abcd")
                return (name(text), answer[text]) if chance.random() < 0.5 else (num(depth), depth)
            one, first = made(depth - 1)
            other, second = made(depth - 1)
            if chance.random() < 0.3 and second < 9 and first < 2 ** 500:
                return power(one, other), first ** second
            if chance.random() < 0.5:
                return times(one, other), first * second
            return plus(one, other), first + second

        for _ in range(300):
            term, number = made(5)
            self.assertEqual(worth(term, answer), number)

    def test_deep_terms(self):
        for many in (100, 500):
            for left in (True, False):
                self.assertEqual(worth(leaning(plus, many, left), {}), many + 1)
                self.assertEqual(worth(leaning(times, many, left), {}), 1)
                self.assertEqual(worth(leaning(power, many, left), {}), 1)

    def test_full_terms(self):
        self.assertEqual(worth(full(10), {}), 1024)

    def test_numbers_of_400_and_800_figures(self):
        great = 10 ** 400 - 1
        self.assertEqual(worth(plus(num(great), name("x")), {"x": 10 ** 800 - 1}), great + 10 ** 800 - 1)
        self.assertEqual(worth(times(num(great), num(great)), {}), great * great)

    def test_the_answer_stays(self):
        answer = {"x": 5, "y": 2}
        worth(plus(name("x"), name("x")), answer)
        refusal(NoNumber, worth, name("z"), answer)
        refusal(TooGreat, worth, power(name("x"), num(10 ** 9)), answer)
        self.assertEqual(answer, {"x": 5, "y": 2})
        self.assertEqual(list(answer), ["x", "y"])

    def test_by_names(self):
        self.assertEqual(worth(answer={"x": 2}, term=name("x")), 2)


class TestNoNumber(unittest.TestCase):
    def no_number(self, term, answer):
        return refusal(NoNumber, worth, term, answer).name

    def test_the_name(self):
        self.assertEqual(self.no_number(name("x"), {}), "x")
        self.assertEqual(self.no_number(name("xy"), {"x": 1, "y": 2}), "xy")
        for make in (plus, times, power):
            self.assertEqual(self.no_number(make(name("x"), name("z")), {"x": 1}), "z")
            self.assertEqual(self.no_number(make(name("z"), name("x")), {"x": 1}), "z")

    def test_the_first_one(self):
        self.assertEqual(self.no_number(plus(name("b"), name("a")), {}), "b")
        self.assertEqual(self.no_number(plus(plus(num(1), name("c")), plus(name("b"), name("a"))), {}), "c")

    def test_also_where_it_would_not_matter(self):
        self.assertEqual(self.no_number(times(num(0), name("z")), {}), "z")
        self.assertEqual(self.no_number(power(name("z"), num(0)), {}), "z")
        self.assertEqual(self.no_number(power(num(1), name("z")), {}), "z")


class TestTooGreat(unittest.TestCase):
    def too_great(self, term, answer):
        self.assertEqual(refusal(TooGreat, worth, term, answer).most, MOST)

    def just_so_many(self, term, answer, number):
        self.assertEqual(number.bit_length(), MOST)
        # Not by assertEqual, which would write both numbers out where they are not the same.
        self.assertTrue(worth(term, answer) == number)

    def test_plus(self):
        half = 2 ** (MOST - 1)
        answer = {"a": half, "b": half - 1, "c": 1}
        self.just_so_many(plus(name("a"), name("b")), answer, 2 ** MOST - 1)
        self.too_great(plus(name("a"), name("a")), answer)
        self.too_great(plus(name("c"), plus(name("a"), name("b"))), answer)
        self.too_great(plus(plus(name("a"), name("b")), name("c")), answer)

    def test_times(self):
        answer = {"a": 2 ** 500000, "b": 2 ** 499999, "c": 2 ** 500000 - 1, "d": 2 ** 500001 - 1}
        self.just_so_many(times(name("a"), name("b")), answer, 2 ** (MOST - 1))
        self.just_so_many(times(name("c"), name("c")), answer, (2 ** 500000 - 1) ** 2)
        self.too_great(times(name("a"), name("a")), answer)
        self.too_great(times(name("c"), name("d")), answer)
        self.too_great(times(name("d"), name("c")), answer)

    def test_power(self):
        self.just_so_many(power(num(2), num(MOST - 1)), {}, 2 ** (MOST - 1))
        self.just_so_many(power(num(2 ** 999), num(1001)), {}, 2 ** (MOST - 1))
        self.too_great(power(num(2), num(MOST)), {})
        self.too_great(power(num(2 ** 1000), num(1000)), {})
        self.assertEqual((3 ** 630929).bit_length(), MOST - 1)
        self.assertTrue(worth(power(num(3), num(630929)), {}) == 3 ** 630929)
        self.too_great(power(num(3), num(630930)), {})
        self.too_great(power(num(3), num(MOST - 1)), {})

    def test_power_of_one_and_of_the_greatest(self):
        answer = {"a": 2 ** MOST - 1}
        self.just_so_many(power(name("a"), num(1)), answer, answer["a"])
        self.too_great(power(name("a"), num(2)), answer)
        self.assertEqual(worth(power(name("a"), num(0)), answer), 1)

    def test_a_name_and_a_number_alone(self):
        answer = {"a": 2 ** MOST - 1, "b": 2 ** MOST}
        self.just_so_many(name("a"), answer, 2 ** MOST - 1)
        self.too_great(name("b"), answer)
        self.just_so_many(num(2 ** MOST - 1), {}, 2 ** MOST - 1)
        self.too_great(num(2 ** MOST), {})

    def test_products_of_the_greatest_by_0_and_1(self):
        answer = {"a": 2 ** MOST - 1}
        for one, other in [(name("a"), num(1)), (num(1), name("a"))]:
            self.just_so_many(times(one, other), answer, answer["a"])
        for one, other in [(name("a"), num(0)), (num(0), name("a"))]:
            self.assertEqual(worth(times(one, other), answer), 0)
        self.too_great(times(name("a"), num(2)), answer)

    def test_which_comes_first(self):
        great, missing = power(num(2), num(MOST)), name("z")
        for make in (plus, times, power):
            self.too_great(make(great, missing), {})
            self.assertEqual(refusal(NoNumber, worth, make(missing, great), {}).name, "z")
            self.too_great(make(num(1), make(great, missing)), {})
            self.assertEqual(refusal(NoNumber, worth, make(make(num(1), missing), great), {}).name, "z")

    def test_the_second_term_goes_ahead_of_the_term_itself(self):
        answer = {"a": 2 ** (MOST - 1)}
        double = plus(name("a"), name("a"))
        self.too_great(plus(double, name("z")), answer)
        # The sum would be too great as well, but its second term has no number.
        self.assertEqual(refusal(NoNumber, worth, plus(name("a"), plus(name("a"), name("z"))), answer).name, "z")

    def test_by_0_and_to_the_power_of_0(self):
        great = power(num(2), num(MOST))
        for term in [times(num(0), great), times(great, num(0)), power(great, num(0)), power(num(0), great),
                     power(num(1), great), times(num(0), power(num(2), num(10 ** 399)))]:
            self.too_great(term, {})

    def test_what_could_not_be_written(self):
        for base in (2, 3, 10 ** 399):
            self.too_great(power(num(base), num(10 ** 399)), {})
        tower = num(2)
        for _ in range(50):
            tower = power(num(2), tower)
        self.too_great(tower, {})
        tower = num(10)
        for _ in range(50):
            tower = power(tower, num(10))
        self.too_great(tower, {})
        self.too_great(power(num(2), name("a")), {"a": 2 ** MOST - 1})
        self.too_great(power(name("a"), name("a")), {"a": 2 ** MOST - 1})

    def test_0_and_1_to_what_could_not_be_written(self):
        for exponent in (10 ** 399, 10 ** 400 - 1, 2 ** 1000):
            self.assertEqual(worth(power(num(0), num(exponent)), {}), 0)
            self.assertEqual(worth(power(num(1), num(exponent)), {}), 1)
        self.assertEqual(worth(power(num(1), name("a")), {"a": 2 ** MOST - 1}), 1)
        self.assertEqual(worth(power(num(0), name("a")), {"a": 2 ** MOST - 1}), 0)


if __name__ == "__main__":
    unittest.main()
