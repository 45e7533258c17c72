import unittest

from runsums.answers import answer_of
from runsums.leading import sayings_of
from runsums.lifting import lifted
from runsums.lowering import lowered, lowered_answer
from runsums.programs import Program
from tests.making import leaning, name, num, plus, power, same, times, under


class TestLifted(unittest.TestCase):
    def told(self, sayings, answer):
        return list(lifted(sayings, answer).items())

    def test_just_the_names_that_stand(self):
        answer = {"a": 1, "b": 2, "c": 3, "d": 4, "e": 5}
        self.assertEqual(self.told([same(name("b"), num(1))], answer), [("b", 2)])
        self.assertEqual(self.told([same(num(1), name("b"))], answer), [("b", 2)])
        self.assertEqual(self.told([under(plus(name("a"), num(7)), times(name("e"), name("c")))], answer), [
            ("a", 1), ("c", 3), ("e", 5)])
        self.assertEqual(self.told([under(name("d"), name("d")), same(power(num(2), name("a")), num(0))], answer), [
            ("a", 1), ("d", 4)])
        self.assertEqual(self.told([same(num(1), num(2))], answer), [])

    def test_in_the_order_of_the_answer(self):
        sayings = [same(name("a"), name("z")), under(name("m"), name("b"))]
        for order in ("abmz", "zmba", "mazb", "bzam"):
            answer = {}
            for text in order:
                answer["x" + text] = 0
                answer[text] = ord(text)
            self.assertEqual(self.told(sayings, answer), [(text, ord(text)) for text in order])

    def test_no_sayings(self):
        for sayings in ([], ()):
            self.assertEqual(lifted(sayings, {"a": 1, "k0a": 2}), {})
            self.assertEqual(lifted(sayings, {}), {})

    def test_names_alike_but_for_a_sign(self):
        answer = {"a1": 1, "a": 2, "a11": 3, "a10": 4, "b1": 5, "aa": 6, "abcdefghij": 7, "abcdefghik": 8, "abcdefghi": 9}
        for text, number in answer.items():
            self.assertEqual(self.told([same(name(text), num(0))], answer), [(text, number)])
        self.assertEqual(self.told([same(name("a11"), name("a"))], answer), [("a", 2), ("a11", 3)])

    def test_names_that_begin_with_k(self):
        great = 10 ** 9000
        answer = {"k0a": great, "k": 1, "k0": 2, "k10a": 3, "k1": 4, "kk": 5}
        self.assertEqual(self.told([same(name("k0a"), name("k1"))], answer), [("k0a", great), ("k1", 4)])
        self.assertEqual(self.told([same(name("k"), num(0))], answer), [("k", 1)])

    def test_numbers_of_0(self):
        self.assertEqual(self.told([same(name("b"), name("a"))], {"a": 0, "b": 0, "c": 0}), [("a", 0), ("b", 0)])

    def test_words_are_no_names(self):
        answer = {"plus": 1, "name": 2, "num": 3, "same": 4}
        self.assertEqual(self.told([same(plus(name("num"), num(1)), num(2))], answer), [("num", 3)])

    def test_deep_terms(self):
        answer = {"a": 1, "b": 2, "c": 3}
        for many in (100, 500):
            sayings = [same(leaning(plus, many, True, name("c")), leaning(times, many, False, name("a")))]
            self.assertEqual(self.told(sayings, answer), [("a", 1), ("c", 3)])

    def test_1000_names(self):
        answer = {f"n{k}": k for k in range(1000)}
        sayings = [same(name(f"n{10 * k}"), num(1)) for k in range(100)]
        self.assertEqual(self.told(sayings, answer), [(f"n{10 * k}", 10 * k) for k in range(100)])

    def test_what_is_told_is_new(self):
        saying = same(name("a"), name("b"))
        sayings, answer = [saying], {"a": 1, "z": 3, "b": 2}
        told = lifted(sayings, answer)
        self.assertIs(type(told), dict)
        told["a"] = 7
        del told["b"]
        self.assertEqual(list(answer.items()), [("a", 1), ("z", 3), ("b", 2)])
        self.assertEqual(self.told(sayings, answer), [("a", 1), ("b", 2)])
        # Also where all names stand, it is another dict.
        lifted(sayings, {"a": 1, "b": 2}).clear()
        answer = {"a": 1, "b": 2}
        lifted(sayings, answer)["a"] = 9
        self.assertEqual(answer, {"a": 1, "b": 2})
        self.assertEqual(len(sayings), 1)
        self.assertIs(sayings[0], saying)

    def test_what_is_changed_behind(self):
        sayings, answer = [same(name("a"), num(0))], {"a": 1, "b": 2}
        told = lifted(sayings, answer)
        answer["a"] = 5
        sayings[0] = same(name("b"), num(0))
        self.assertEqual(told, {"a": 1})
        self.assertEqual(lifted(sayings, answer), {"b": 2})

    def test_by_names(self):
        self.assertEqual(lifted(answer={"b": 1, "a": 2}, sayings=(same(name("a"), num(0)),)), {"a": 2})


class TestLedDownAndLifted(unittest.TestCase):
    def test_by_the_sayings_above(self):
        sayings = [under(name("a"), name("b")), same(name("c"), num(1)), under(name("c"), name("b"))]
        for answer in ({"a": 2, "b": 3, "c": 1}, {"c": 1, "b": 3, "a": 2}):
            down = lowered_answer(sayings, answer)
            self.assertEqual(len(down), 15)
            self.assertEqual(self.in_order(lifted(sayings, down)), self.in_order(answer))
            further = lowered_answer(sayings, {"z": 9, **answer, "y": 8})
            self.assertEqual(self.in_order(lifted(sayings, further)), self.in_order(answer))

    def test_by_the_sayings_led_down(self):
        sayings = [under(name("a"), name("b")), same(name("c"), num(1)), under(name("c"), name("b"))]
        answer = {"z": 9, "c": 1, "b": 3, "a": 2}
        down = lowered_answer(sayings, answer)
        expected = [(text, number) for text, number in down.items() if text != "z"]
        self.assertEqual(self.in_order(lifted(lowered(sayings), down)), expected)
        self.assertEqual(len(expected), 15)
        # What no saying above speaks of is gone, also of the new names.
        self.assertEqual(self.in_order(lifted(lowered(sayings)[:1], down)), [("b", 3), ("k0a", 16)])

    def test_programs(self):
        program = Program(1, [("if", 0, 2), ("lower", 0), ("stop",)])
        for held in (0, 1):
            sayings, answer = sayings_of(program), answer_of(program, [held])
            down = lowered_answer(sayings, answer)
            self.assertGreater(len(down), len(answer))
            self.assertEqual(self.in_order(lifted(sayings, down)), self.in_order(answer))
            self.assertEqual(self.in_order(lifted(lowered(sayings), down)), self.in_order(down))

    def in_order(self, answer):
        return list(answer.items())


if __name__ == "__main__":
    unittest.main()
