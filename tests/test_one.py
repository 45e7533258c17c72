import itertools
import random
import unittest

from runsums.errors import NoNumber, NoOne, TooGreat
from runsums.looking import far_off, first_wrong, holds
from runsums.lowering import lowered, lowered_answer
from runsums.one import either, made_one
from runsums.sayings import Saying
from runsums.saytexts import show_saying
from runsums.terms import worth
from tests.making import leaning, name, num, plus, power, same, times, under
from tests.samples import refusal

A, B, C, D = name("a"), name("b"), name("c"), name("d")


def sides(saying):
    return saying.word, saying.left, saying.right


def squares(left, right):
    return plus(times(left, left), times(right, right))


def twice(left, right):
    return times(num(2), times(left, right))


def excess(saying, answer):
    return worth(saying.left, answer) - worth(saying.right, answer)


class TestMadeOne(unittest.TestCase):
    def test_none(self):
        for sayings in ([], ()):
            self.assertEqual(sides(made_one(sayings)), ("same", num(0), num(0)))
            self.assertEqual(show_saying(made_one(sayings)), "0 = 0")

    def test_one(self):
        self.assertEqual(sides(made_one([same(A, B)])), ("same", squares(A, B), twice(A, B)))
        self.assertEqual(show_saying(made_one([same(A, plus(B, num(1)))])),
                         "((a * a) + ((b + 1) * (b + 1))) = (2 * (a * (b + 1)))")

    def test_two_and_three(self):
        two = [same(A, B), same(C, num(7))]
        self.assertEqual(sides(made_one(two)), (
            "same", plus(squares(A, B), squares(C, num(7))), plus(twice(A, B), twice(C, num(7)))))
        three = [*two, same(power(num(2), D), A)]
        left, right = power(num(2), D), A
        self.assertEqual(sides(made_one(three)), (
            "same", plus(plus(squares(A, B), squares(C, num(7))), squares(left, right)),
            plus(plus(twice(A, B), twice(C, num(7))), twice(left, right))))
        self.assertEqual(sides(made_one(tuple(three))), sides(made_one(three)))

    def test_the_same_one_twice(self):
        saying = same(A, B)
        self.assertEqual(sides(made_one([saying, saying])), (
            "same", plus(squares(A, B), squares(A, B)), plus(twice(A, B), twice(A, B))))

    def test_100(self):
        sayings = [same(name(f"n{k}"), num(k)) for k in range(100)]
        left, right = squares(name("n0"), num(0)), twice(name("n0"), num(0))
        for k in range(1, 100):
            left, right = plus(left, squares(name(f"n{k}"), num(k))), plus(right, twice(name(f"n{k}"), num(k)))
        one = made_one(sayings)
        self.assertEqual(sides(one), ("same", left, right))
        answer = {f"n{k}": k for k in range(100)}
        self.assertIs(holds(one, answer), True)
        answer["n99"] = 100
        self.assertIs(holds(one, answer), False)

    def test_no_one(self):
        for at in range(4):
            for form in (list, tuple):
                sayings = form([same(A, B)] * at + [under(A, B), same(A, B), under(A, B)])
                self.assertEqual(refusal(NoOne, made_one, sayings).at, at)
        self.assertEqual(refusal(NoOne, made_one, [under(num(1), num(1))]).at, 0)

    def test_holds_just_where_all_of_them_do(self):
        chance = random.Random(29)
        terms = [A, B, C, num(1), plus(A, B), times(B, C), power(C, A), num(0)]
        for _ in range(60):
            sayings = [same(chance.choice(terms), chance.choice(terms)) for _ in range(chance.randrange(4))]
            one = made_one(sayings)
            for a, b, c in itertools.product(range(3), repeat=3):
                answer = {"a": a, "b": b, "c": c}
                self.assertIs(holds(one, answer), first_wrong(sayings, answer) is None)
                self.assertEqual(excess(one, answer), far_off(sayings, answer))

    def test_one_over_and_one_under_do_not_make_up_for_each_other(self):
        sayings = [same(A, num(5)), same(B, num(5))]
        self.assertIs(holds(made_one(sayings), {"a": 6, "b": 4}), False)
        self.assertEqual(excess(made_one(sayings), {"a": 6, "b": 4}), 2)
        self.assertEqual(excess(made_one(sayings), {"a": 0, "b": 9}), 41)

    def test_great_numbers(self):
        answer = {"a": 10 ** 800 - 1, "b": 10 ** 800 - 1, "c": 10 ** 800 - 2}
        self.assertIs(holds(made_one([same(A, B), same(C, C)]), answer), True)
        self.assertIs(holds(made_one([same(A, B), same(A, C)]), answer), False)
        self.assertEqual(excess(made_one([same(A, B), same(A, C)]), answer), 1)

    def test_refusals_of_what_is_made(self):
        self.assertEqual(refusal(NoNumber, holds, made_one([same(A, B)]), {"a": 1}).name, "b")
        # Its squares come to too much, though the sides themselves don't.
        great = same(power(num(2), num(500000)), power(num(2), num(500000)))
        self.assertIs(holds(great, {}), True)
        self.assertEqual(refusal(TooGreat, holds, made_one([great]), {}).most, 1000000)

    def test_made_of_what_was_made(self):
        sayings = [same(A, B), same(B, C)]
        one = made_one([made_one(sayings), same(C, num(1))])
        for a, b, c in itertools.product(range(3), repeat=3):
            answer = {"a": a, "b": b, "c": c}
            self.assertIs(holds(one, answer), a == b == c == 1)

    def test_sayings_led_down(self):
        sayings = [under(A, B), same(B, plus(A, num(4))), under(num(1), B)]
        one = made_one(lowered(sayings))
        told = lowered_answer(sayings, {"a": 3, "b": 7})
        self.assertIs(holds(one, told), True)
        for text in told:
            other = {**told, text: told[text] + 1}
            self.assertIs(holds(one, other), False)
            self.assertEqual(excess(one, other), far_off(lowered(sayings), other))

    def test_deep_sides(self):
        for many in (100, 490):
            left, right = leaning(plus, many, True, A), leaning(plus, many, False, B)
            one = made_one([same(left, right)])
            self.assertIs(holds(one, {"a": 5, "b": 5}), True)
            self.assertIs(holds(one, {"a": 5, "b": 6}), False)
            self.assertTrue(one == same(squares(left, right), twice(left, right)))

    def test_what_is_handed_in_stays(self):
        one, other = same(A, B), same(C, D)
        sayings = [one, other]
        told = made_one(sayings)
        self.assertEqual(len(sayings), 2)
        self.assertIs(sayings[0], one)
        self.assertIs(sayings[1], other)
        self.assertEqual((sides(one), sides(other)), (("same", A, B), ("same", C, D)))
        sayings.pop()
        self.assertEqual(sides(told), (
            "same", plus(squares(A, B), squares(C, D)), plus(twice(A, B), twice(C, D))))
        self.assertEqual(sides(made_one(sayings)), ("same", squares(A, B), twice(A, B)))

    def test_by_names(self):
        self.assertEqual(made_one(sayings=[]), made_one([]))


class TestEither(unittest.TestCase):
    def test_term_by_term(self):
        self.assertEqual(sides(either(same(A, B), same(C, D))), (
            "same", plus(times(A, C), times(B, D)), plus(times(A, D), times(B, C))))
        self.assertEqual(sides(either(same(C, D), same(A, B))), (
            "same", plus(times(C, A), times(D, B)), plus(times(C, B), times(D, A))))
        self.assertEqual(show_saying(either(same(plus(A, num(1)), B), same(num(3), C))),
                         "(((a + 1) * 3) + (b * c)) = (((a + 1) * c) + (b * 3))")

    def test_the_same_one_twice(self):
        saying = same(A, B)
        self.assertEqual(sides(either(saying, saying)), (
            "same", plus(times(A, A), times(B, B)), plus(times(A, B), times(B, A))))

    def test_holds_just_where_one_of_them_does(self):
        chance = random.Random(30)
        terms = [A, B, C, num(1), plus(A, B), times(B, C), power(C, A), num(0)]
        for _ in range(60):
            one = same(chance.choice(terms), chance.choice(terms))
            other = same(chance.choice(terms), chance.choice(terms))
            for a, b, c in itertools.product(range(3), repeat=3):
                answer = {"a": a, "b": b, "c": c}
                self.assertIs(holds(either(one, other), answer), holds(one, answer) or holds(other, answer))

    def test_differences_that_would_make_up_for_each_other(self):
        saying = either(same(A, num(5)), same(B, num(5)))
        for a, b in itertools.product(range(11), repeat=2):
            self.assertIs(holds(saying, {"a": a, "b": b}), a == 5 or b == 5)

    def test_of_several(self):
        saying = either(either(same(A, num(2)), same(A, num(5))), same(A, num(9)))
        self.assertEqual([a for a in range(20) if holds(saying, {"a": a})], [2, 5, 9])
        both = made_one([saying, either(same(A, num(9)), same(A, num(2)))])
        self.assertEqual([a for a in range(20) if holds(both, {"a": a})], [2, 9])

    def test_no_one(self):
        good, wrong = same(A, B), under(A, B)
        self.assertEqual(refusal(NoOne, either, wrong, good).at, 0)
        self.assertEqual(refusal(NoOne, either, good, wrong).at, 1)
        self.assertEqual(refusal(NoOne, either, wrong, wrong).at, 0)

    def test_refusals_of_what_is_made(self):
        self.assertEqual(refusal(NoNumber, holds, either(same(A, B), same(C, D)), {"a": 1, "c": 1}).name, "b")
        great = same(power(num(2), num(500000)), num(1))
        self.assertEqual(refusal(TooGreat, holds, either(great, great), {}).most, 1000000)

    def test_what_is_handed_in_stays(self):
        one, other = same(A, B), same(C, D)
        told = either(one, other)
        self.assertIs(type(told), Saying)
        self.assertEqual((sides(one), sides(other)), (("same", A, B), ("same", C, D)))
        self.assertEqual(sides(either(one, other)), sides(told))

    def test_by_names(self):
        self.assertEqual(sides(either(other=same(C, D), one=same(A, B))), sides(either(same(A, B), same(C, D))))


if __name__ == "__main__":
    unittest.main()
