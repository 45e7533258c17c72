import random
import unittest

from runsums.answers import answer_of
from runsums.errors import NoNumber, TooGreat, Wrong
from runsums.leading import sayings_of
from runsums.looking import far_off, first_wrong, holds
from runsums.lowering import lowered, lowered_answer
from runsums.programs import Program
from runsums.sayings import Saying, names_in_all
from runsums.saytexts import show_saying
from tests.making import full, leaning, name, num, plus, power, same, times, under
from tests.samples import move, refusal, two_stops

MOST = 1000000
GREAT = power(num(2), num(MOST))
MISSING = name("z")
TRUE = same(num(1), num(1))
FALSE = same(num(1), num(2))


def new_names(t):
    return [f"k{t}{letter}" for letter in "abcdef"]


def led_down(left, right, t):
    """The four sayings of promise 25, term by term: each its word, left and right."""
    ka, kb, kc, kd, ke, kf = [name(text) for text in new_names(t)]
    return [
        ("same", ka, power(num(2), plus(right, num(1)))),
        ("same", power(plus(ka, num(1)), right),
         plus(plus(times(kb, power(ka, plus(left, num(1)))),
                   times(plus(times(num(2), kc), num(1)), power(ka, left))), kd)),
        ("same", plus(plus(kd, ke), num(1)), power(ka, left)),
        ("same", plus(plus(times(num(2), kc), num(2)), kf), ka),
    ]


def laid_out(sayings):
    return [(saying.word, saying.left, saying.right) for saying in sayings]


def row_of(n):
    """The choosing numbers of n, each by the one ahead of it."""
    row = [1]
    for k in range(n):
        row.append(row[-1] * (n - k) // (k + 1))
    return row


def chosen(a, b):
    """The new numbers of promise 26 where a fits under b, by the figures of the power one by one."""
    u, row = 2 ** (b + 1), row_of(b)
    kb = sum(row[k] * u ** (k - a - 1) for k in range(a + 1, b + 1))
    kc = (row[a] - 1) // 2
    kd = sum(row[k] * u ** k for k in range(a))
    return [u, kb, kc, kd, u ** a - kd - 1, u - 2 * kc - 2]


def of_numbers(a, b):
    """An under of two names, with the numbers for them."""
    return [under(name("a"), name("b"))], {"a": a, "b": b}


class TestLowered(unittest.TestCase):
    def test_without_an_under(self):
        self.assertEqual(lowered([]), [])
        self.assertEqual(lowered(()), [])
        sayings = [TRUE, FALSE, same(name("a"), GREAT)]
        self.assertEqual(lowered(sayings), sayings)
        self.assertEqual(lowered(tuple(sayings)), sayings)
        self.assertEqual(laid_out(lowered(sayings)), laid_out(sayings))

    def test_by_hand(self):
        self.assertEqual([show_saying(saying) for saying in lowered([under(name("x"), num(5))])], [
            "k0a = (2 ^ (5 + 1))",
            "((k0a + 1) ^ 5) = (((k0b * (k0a ^ (x + 1))) + (((2 * k0c) + 1) * (k0a ^ x))) + k0d)",
            "((k0d + k0e) + 1) = (k0a ^ x)",
            "(((2 * k0c) + 2) + k0f) = k0a"])

    def test_term_by_term(self):
        left, right = plus(name("a"), times(num(3), name("b"))), power(name("c"), num(2))
        for place in range(3):
            sayings = [TRUE, same(name("a"), name("b")), FALSE]
            sayings[place] = under(left, right)
            told = lowered(sayings)
            expected = laid_out(sayings)
            expected[place:place + 1] = led_down(left, right, place)
            with self.subTest(place=place):
                self.assertEqual(laid_out(told), expected)

    def test_at_several_places(self):
        first, second, third = (num(1), name("a")), (name("a"), name("b")), (times(name("b"), num(2)), name("c"))
        told = lowered([under(*first), TRUE, under(*second), FALSE, under(*third)])
        self.assertEqual(laid_out(told), [
            *led_down(*first, 0), ("same", num(1), num(1)), *led_down(*second, 2), ("same", num(1), num(2)),
            *led_down(*third, 4)])

    def test_an_under_told_twice(self):
        saying = under(name("a"), num(9))
        self.assertEqual(laid_out(lowered([saying, saying])),
                         led_down(name("a"), num(9), 0) + led_down(name("a"), num(9), 1))
        self.assertEqual(laid_out(lowered([saying, TRUE, under(name("a"), num(9))]))[5:], led_down(name("a"), num(9), 2))

    def test_numbers_of_two_figures(self):
        for place in (9, 10, 11, 42, 99):
            told = lowered([TRUE] * place + [under(name("a"), name("b"))])
            self.assertEqual(laid_out(told[place:]), led_down(name("a"), name("b"), place))
            self.assertEqual(names_in_all(told), ["a", "b", *new_names(place)])

    def test_100(self):
        sayings = [under(name(f"n{t}"), num(t)) for t in range(100)]
        told = lowered(sayings)
        self.assertEqual(len(told), 400)
        for t in range(100):
            self.assertEqual(laid_out(told[4 * t:4 * t + 4]), led_down(name(f"n{t}"), num(t), t))

    def test_all_of_the_word_same(self):
        for program in (move(), two_stops()):
            sayings = sayings_of(program)
            told = lowered(sayings)
            unders = [saying for saying in sayings if saying.word == "under"]
            self.assertEqual({saying.word for saying in told}, {"same"})
            self.assertEqual(len(told), len(sayings) + 3 * len(unders))

    def test_deep_terms(self):
        for many in (100, 450):
            left, right = leaning(plus, many, True, name("a")), leaning(plus, many, False, name("b"))
            told = lowered([under(left, right)])
            self.assertTrue(told[2] == Saying(*led_down(left, right, 0)[2]))
            self.assertTrue(told[0] == Saying(*led_down(left, right, 0)[0]))

    def test_the_list_is_new(self):
        unlike = under(name("a"), num(9))
        sayings = [TRUE, unlike, FALSE]
        first = lowered(sayings)
        self.assertIs(type(first), list)
        kept = laid_out(first)
        first.pop()
        first[0] = None
        self.assertEqual(laid_out(lowered(sayings)), kept)
        self.assertEqual(sayings, [TRUE, unlike, FALSE])
        self.assertEqual((unlike.word, unlike.left, unlike.right), ("under", name("a"), num(9)))
        # Also where nothing is led down, the list is another one than that handed in.
        sayings = [TRUE]
        lowered(sayings).append(FALSE)
        self.assertEqual(sayings, [TRUE])

    def test_a_list_changed_behind_the_call(self):
        sayings = [TRUE, under(name("a"), num(9))]
        told = lowered(sayings)
        sayings[1] = FALSE
        sayings.insert(0, under(num(1), num(1)))
        self.assertEqual(laid_out(told), [("same", num(1), num(1)), *led_down(name("a"), num(9), 1)])
        self.assertEqual(laid_out(lowered(sayings)), [
            *led_down(num(1), num(1), 0), ("same", num(1), num(1)), ("same", num(1), num(2))])

    def test_in_two_lists_at_two_places(self):
        saying = under(name("a"), name("b"))
        self.assertEqual(laid_out(lowered([saying])), led_down(name("a"), name("b"), 0))
        self.assertEqual(laid_out(lowered([TRUE, TRUE, saying]))[2:], led_down(name("a"), name("b"), 2))
        self.assertEqual(laid_out(lowered([saying])), led_down(name("a"), name("b"), 0))

    def test_by_names(self):
        self.assertEqual(lowered(sayings=[TRUE]), [TRUE])


class TestLoweredAnswer(unittest.TestCase):
    def test_by_hand(self):
        """Of 1 and 3: u 16, and 17 to the power of 3 is 1, 3, 3, 1 by 16."""
        sayings, answer = of_numbers(1, 3)
        self.assertEqual(list(lowered_answer(sayings, answer).items()), [
            ("a", 1), ("b", 3), ("k0a", 16), ("k0b", 0x13), ("k0c", 1), ("k0d", 1), ("k0e", 14), ("k0f", 12)])
        self.assertEqual(list(lowered_answer([under(num(0), num(0))], {}).items()), [
            ("k0a", 2), ("k0b", 0), ("k0c", 0), ("k0d", 0), ("k0e", 0), ("k0f", 0)])

    def test_no_sayings(self):
        for sayings in ([], ()):
            answer = {"b": 1, "a": 2}
            told = lowered_answer(sayings, answer)
            self.assertEqual(list(told.items()), [("b", 1), ("a", 2)])
            told["c"] = 3
            self.assertEqual(answer, {"b": 1, "a": 2})
        self.assertEqual(lowered_answer([], {}), {})

    def test_without_an_under(self):
        self.assertEqual(list(lowered_answer([TRUE, same(name("b"), num(1))], {"b": 1, "a": 2}).items()), [
            ("b", 1), ("a", 2)])

    def test_all_small_numbers(self):
        for a in range(20):
            for b in range(20):
                sayings, answer = of_numbers(a, b)
                if a & ~b:
                    self.assertEqual(refusal(Wrong, lowered_answer, sayings, answer).at, 0)
                    continue
                told = lowered_answer(sayings, answer)
                self.assertEqual(list(told), ["a", "b", *new_names(0)])
                self.assertEqual([told[text] for text in new_names(0)], chosen(a, b))
                self.assertIsNone(first_wrong(lowered(sayings), told))
                self.assertEqual(far_off(lowered(sayings), told), 0)

    def test_right_sides_of_0_and_600(self):
        for a, b in [(0, 0), (0, 600), (600, 600), (512, 600), (88, 600), (8, 600), (599, 599), (511, 511), (512, 512)]:
            sayings, answer = of_numbers(a, b)
            told = lowered_answer(sayings, answer)
            with self.subTest(a=a, b=b):
                self.assertEqual([told[text] for text in new_names(0)], chosen(a, b))
                self.assertIsNone(first_wrong(lowered(sayings), told))

    def test_the_order(self):
        sayings = [TRUE, under(num(1), name("b")), same(name("a"), num(2)), under(name("a"), name("b"))]
        answer = {"zz": 5, "b": 7, "q": 10 ** 700, "a": 2, "x0": 0}
        told = lowered_answer(sayings, answer)
        self.assertEqual(list(told), ["zz", "b", "q", "a", "x0", *new_names(1), *new_names(3)])
        self.assertEqual([told[text] for text in answer], list(answer.values()))
        self.assertEqual([told[text] for text in new_names(1)], chosen(1, 7))
        self.assertEqual([told[text] for text in new_names(3)], chosen(2, 7))

    def test_numbers_of_two_figures(self):
        sayings = [TRUE] * 12 + [under(num(4), name("b"))] + [TRUE] * 86 + [under(num(1), name("b"))]
        told = lowered_answer(sayings, {"b": 5})
        self.assertEqual(list(told), ["b", *new_names(12), *new_names(99)])
        self.assertIsNone(first_wrong(lowered(sayings), told))

    def test_an_under_told_twice(self):
        sayings, answer = of_numbers(2, 6)
        told = lowered_answer(sayings * 2, answer)
        self.assertEqual(list(told), ["a", "b", *new_names(0), *new_names(1)])
        self.assertEqual([told[text] for text in new_names(0)], [told[text] for text in new_names(1)])
        self.assertIsNone(first_wrong(lowered(sayings * 2), told))

    def test_100_unders(self):
        sayings = [under(num(t), name("b")) for t in range(100)]
        told = lowered_answer(sayings, {"b": 127})
        self.assertEqual(list(told), ["b", *[text for t in range(100) for text in new_names(t)]])
        self.assertIsNone(first_wrong(lowered(sayings), told))

    def test_kinds(self):
        sayings, answer = of_numbers(5, 13)
        told = lowered_answer(sayings, answer)
        self.assertIs(type(told), dict)
        self.assertEqual({type(number) for number in told.values()}, {int})

    def test_runs(self):
        """Whole answers of small runs: all sayings led down hold of them."""
        for program, begin, more in [
                (Program(1, [("stop",)]), (0,), 0), (Program(1, [("stop",)]), (3,), 7),
                (Program(1, [("raise", 0), ("stop",)]), (0,), 1),
                (Program(1, [("if", 0, 2), ("lower", 0), ("stop",)]), (0,), 0),
                (Program(1, [("if", 0, 2), ("lower", 0), ("stop",)]), (1,), 1),
                (Program(2, [("go", 2), ("raise", 1), ("stop",)]), (1, 1), 0)]:
            sayings, answer = sayings_of(program), answer_of(program, begin, more)
            told = lowered_answer(sayings, answer)
            self.assertEqual(list(told)[:len(answer)], list(answer))
            self.assertIsNone(first_wrong(lowered(sayings), told))

    def test_what_is_told_is_new(self):
        sayings, answer = of_numbers(1, 3)
        kept = list(answer.items())
        told = lowered_answer(sayings, answer)
        anew = list(told.items())
        told["k0a"] = 0
        del told["a"]
        self.assertEqual(list(answer.items()), kept)
        self.assertEqual(list(lowered_answer(sayings, answer).items()), anew)
        self.assertEqual(sayings, [under(name("a"), name("b"))])
        self.assertEqual(list(lowered_answer(tuple(sayings), answer).items()), anew)

    def test_by_names(self):
        sayings, answer = of_numbers(1, 3)
        self.assertEqual(lowered_answer(answer=answer, sayings=sayings), lowered_answer(sayings, answer))

    def test_great_sides_of_same(self):
        great = 10 ** 800 - 1
        sayings = [same(name("a"), name("g")), under(num(1), num(3)), same(power(num(2), num(9000)), name("h"))]
        answer = {"a": great, "g": great, "h": 2 ** 9000}
        self.assertEqual(list(lowered_answer(sayings, answer)), ["a", "g", "h", *new_names(1)])

    def test_full_and_deep_sides(self):
        sayings = [under(full(4), leaning(plus, 99, True, name("b")))]
        told = lowered_answer(sayings, {"b": 16 + 256 - 99})
        self.assertEqual([told[text] for text in new_names(0)], chosen(16, 16 + 256))
        self.assertIsNone(first_wrong(lowered(sayings), told))


class TestRefusals(unittest.TestCase):
    # Of these the right side comes to more than 600.
    BEYOND = [under(num(1), num(601)), under(num(0), num(10 ** 399)), under(name("a"), name("a"))]
    ANSWER = {"a": 601}

    def test_wrong(self):
        for at in range(4):
            for wrong in (FALSE, under(num(2), num(5)), under(name("a"), num(600))):
                sayings = [TRUE] * at + [wrong, FALSE, TRUE]
                self.assertEqual(refusal(Wrong, lowered_answer, sayings, self.ANSWER).at, at)

    def test_wrong_goes_ahead_of_600(self):
        for beyond in self.BEYOND:
            for wrong in (FALSE, under(num(2), num(1))):
                self.assertEqual(refusal(Wrong, lowered_answer, [beyond, wrong], self.ANSWER).at, 1)
                self.assertEqual(refusal(Wrong, lowered_answer, [wrong, beyond], self.ANSWER).at, 0)
                self.assertEqual(refusal(Wrong, lowered_answer, [beyond, TRUE, beyond, wrong], self.ANSWER).at, 3)
        self.assertEqual(refusal(Wrong, lowered_answer, [under(num(2), num(601))], {}).at, 0)

    def test_no_number_and_a_million_bits_go_ahead_of_600(self):
        for beyond in self.BEYOND:
            for make in (same, under):
                for at in (0, 1):
                    sayings = [beyond, beyond]
                    sayings[at] = make(num(0), MISSING)
                    self.assertEqual(refusal(NoNumber, lowered_answer, sayings, self.ANSWER).name, "z")
                    sayings[at] = make(num(0), GREAT)
                    self.assertEqual(refusal(TooGreat, lowered_answer, sayings, self.ANSWER).most, MOST)

    def test_whichever_comes_first(self):
        missing, great = same(MISSING, num(1)), under(num(1), GREAT)
        for ahead in ([], [TRUE], self.BEYOND):
            for behind in ([], [missing], [great], [FALSE], self.BEYOND):
                at = len(ahead)
                self.assertEqual(refusal(NoNumber, lowered_answer, ahead + [missing] + behind, self.ANSWER).name, "z")
                self.assertEqual(refusal(TooGreat, lowered_answer, ahead + [great] + behind, self.ANSWER).most, MOST)
                self.assertEqual(refusal(Wrong, lowered_answer, ahead + [FALSE] + behind, self.ANSWER).at, at)
        self.assertEqual(refusal(NoNumber, lowered_answer, [under(MISSING, GREAT)], {}).name, "z")
        self.assertEqual(refusal(TooGreat, lowered_answer, [under(GREAT, MISSING)], {}).most, MOST)

    def test_600(self):
        for right in (601, 602, 1000, 10 ** 399):
            for left in (right, 0, 1 if right & 1 else 0):
                sayings, answer = of_numbers(left, right)
                self.assertEqual(refusal(TooGreat, lowered_answer, sayings, answer).most, 600)
        small = under(num(1), num(3))
        for beyond in self.BEYOND:
            for sayings in ([beyond], [TRUE, beyond], [small, beyond], [beyond, small], [beyond, TRUE, small]):
                self.assertEqual(refusal(TooGreat, lowered_answer, sayings, self.ANSWER).most, 600)
        self.assertEqual(refusal(TooGreat, lowered_answer, [under(num(0), power(num(2), num(MOST - 1)))], {}).most, 600)

    def test_a_program_whose_run_is_too_great(self):
        program = move()
        self.assertEqual(refusal(TooGreat, lowered_answer, sayings_of(program), answer_of(program, (1, 0))).most, 600)

    def test_what_is_refused_stays(self):
        for sayings, kind in [([TRUE, FALSE], Wrong), ([self.BEYOND[0]], TooGreat), ([same(MISSING, num(0))], NoNumber)]:
            answer = {"b": 1, "a": 2}
            kept = list(sayings)
            refusal(kind, lowered_answer, sayings, answer)
            self.assertEqual(list(answer.items()), [("b", 1), ("a", 2)])
            self.assertEqual(sayings, kept)


class TestTheWhole(unittest.TestCase):
    """Promise 26: just one choice of the new numbers."""

    def not_all_hold(self, sayings, told, text, number):
        self.assertIsNotNone(first_wrong(sayings, {**told, text: number}))

    def test_one_of_the_new_numbers_otherwise(self):
        chance = random.Random(26)
        for a, b in [(0, 0), (0, 1), (1, 1), (2, 3), (4, 6), (5, 13), (0, 20), (20, 20), (8, 30), (64, 65), (1, 33)]:
            sayings, answer = of_numbers(a, b)
            led, told = lowered(sayings), lowered_answer(sayings, answer)
            for text in new_names(0):
                number = told[text]
                with self.subTest(a=a, b=b, text=text):
                    self.not_all_hold(led, told, text, number + 1)
                    if number > 0:
                        self.not_all_hold(led, told, text, number - 1)
                        self.not_all_hold(led, told, text, 0)
                    for bit in range(min(number.bit_length() + 2, 60)):
                        self.not_all_hold(led, told, text, number ^ (1 << bit))
                    for _ in range(10):
                        bit = chance.randrange(number.bit_length() + 2)
                        self.not_all_hold(led, told, text, number ^ (1 << bit))

    def test_another_b_with_the_numbers_of_another_choice(self):
        """Where a doesn't fit, the numbers that would come of the power don't do."""
        for b in range(12):
            u, row = 2 ** (b + 1), row_of(b)
            for a in range(b + 1):
                if a & ~b == 0:
                    continue
                kb = sum(row[k] * u ** (k - a - 1) for k in range(a + 1, b + 1))
                kd = sum(row[k] * u ** k for k in range(a))
                led = lowered(of_numbers(a, b)[0])
                for kc in ((row[a] - 1) // 2, row[a] // 2, 0):
                    numbers = [u, kb, kc, kd, u ** a - kd - 1, u - 2 * kc - 2]
                    self.assertIsNotNone(first_wrong(led, {"a": a, "b": b, **dict(zip(new_names(0), numbers))}))

    def test_sayings_that_do_not_hold(self):
        """Led down of an under that doesn't hold no few small numbers do, tried one and all."""
        led = lowered([under(num(1), num(0))])
        for u in range(3):
            for kb in range(3):
                for kc in range(3):
                    for rest in range(27):
                        numbers = [u, kb, kc, rest % 3, rest // 3 % 3, rest // 9]
                        self.assertIsNotNone(first_wrong(led, dict(zip(new_names(0), numbers))))

    def test_just_one_choice_of_few(self):
        """Of 1 under 1 all numbers up to 5 are tried, and just those that are told do."""
        sayings = [under(num(1), num(1))]
        led, told = lowered(sayings), lowered_answer(sayings, {})
        self.assertEqual(list(told.values()), [4, 0, 0, 1, 2, 2])
        found = []
        for drawn in range(6 ** 5):
            numbers = [4] + [drawn // 6 ** place % 6 for place in range(5)]
            if all(holds(saying, dict(zip(new_names(0), numbers))) for saying in led):
                found.append(numbers)
        self.assertEqual(found, [[4, 0, 0, 1, 2, 2]])


if __name__ == "__main__":
    unittest.main()
