import random
import unittest

from runsums.renaming import renamed
from runsums.sayings import Saying, names_in
from runsums.saytexts import read_saying, show_saying
from tests.making import by_chance, leaning, name, num, plus, power, times


def renamed_text(text, names):
    return show_saying(renamed(read_saying(text), names))


class TestRenamed(unittest.TestCase):
    def test_names_that_give_way(self):
        self.assertEqual(renamed_text("a = b", {"a": "c"}), "c = b")
        self.assertEqual(renamed_text("a = b", {"b": "c"}), "a = c")
        self.assertEqual(renamed_text("(a + (b * a)) under (a ^ (2 + a))", {"a": "x0"}),
                         "(x0 + (b * x0)) under (x0 ^ (2 + x0))")
        self.assertEqual(renamed_text("a under b", {"a": "abcdefghij", "b": "k99f"}), "abcdefghij under k99f")

    def test_exchanged(self):
        self.assertEqual(renamed_text("(a + b) = (b ^ a)", {"a": "b", "b": "a"}), "(b + a) = (a ^ b)")
        self.assertEqual(renamed_text("((a + b) * c) = a", {"a": "b", "b": "c", "c": "a"}), "((b + c) * a) = b")

    def test_all_at_once(self):
        """What a name gave way to doesn't give way again."""
        for names in ({"a": "b", "b": "c", "c": "d"}, {"c": "d", "b": "c", "a": "b"}):
            self.assertEqual(renamed_text("(a + b) under c", names), "(b + c) under d")

    def test_several_to_one(self):
        self.assertEqual(renamed_text("(a + b) = (c * d)", {"a": "z", "b": "z", "c": "z"}), "(z + z) = (z * d)")
        self.assertEqual(renamed_text("(a + b) = c", {"a": "c", "b": "c"}), "(c + c) = c")

    def test_to_itself(self):
        self.assertEqual(renamed_text("a = b", {"a": "a", "b": "a"}), "a = a")

    def test_names_that_stand_nowhere(self):
        self.assertEqual(renamed_text("a = b", {"c": "a", "d": "b", "num": "x", "same": "y", "plus": "z"}), "a = b")
        self.assertEqual(renamed_text("(ab + a1) = aa", {"a": "z"}), "(ab + a1) = aa")
        self.assertEqual(renamed_text("5 = 6", {"a": "z"}), "5 = 6")

    def test_the_empty_dict(self):
        for text in ("a = b", "(a + 1) under (2 ^ b)", "0 = 0"):
            self.assertEqual(renamed_text(text, {}), text)

    def test_names_that_are_words_as_well(self):
        names = {"num": "name", "name": "num", "plus": "times", "under": "u", "same": "under"}
        self.assertEqual(renamed_text("(num + 1) under (name * plus)", names), "(name + 1) under (num * times)")
        self.assertEqual(renamed_text("under under same", names), "u under under")

    def test_word_numbers_and_form_stay(self):
        great = num(10 ** 399 + 7)
        for word in ("same", "under"):
            told = renamed(Saying(word, plus(great, name("a")), power(name("a"), times(num(0), name("b")))), {"a": "c"})
            self.assertIs(type(told), Saying)
            self.assertEqual((told.word, told.left, told.right), (
                word, plus(great, name("c")), power(name("c"), times(num(0), name("b")))))

    def test_terms_by_chance(self):
        chance = random.Random(28)
        names = {"u": "x0", "under": "u", "x0": "abcdefghij", "z": "q"}

        def by_hand(term):
            if term[0] == "name":
                return name(names.get(term[1], term[1]))
            return term if term[0] == "num" else (term[0], by_hand(term[1]), by_hand(term[2]))

        for _ in range(200):
            left, right = by_chance(chance, 6), by_chance(chance, 6)
            told = renamed(Saying("under", left, right), names)
            self.assertEqual((told.word, told.left, told.right), ("under", by_hand(left), by_hand(right)))

    def test_deep_terms(self):
        for many in (100, 500):
            for make in (plus, times, power):
                for left in (True, False):
                    term = leaning(make, many, left, name("a"))
                    told = renamed(Saying("same", term, term), {"a": "b"})
                    expected = leaning(make, many, left, name("b"))
                    self.assertTrue(told == Saying("same", expected, expected))

    def test_what_is_handed_in_stays(self):
        saying = Saying("under", plus(name("a"), num(1)), name("b"))
        names = {"a": "b", "b": "c"}
        told = renamed(saying, names)
        self.assertEqual((saying.word, saying.left, saying.right), ("under", plus(name("a"), num(1)), name("b")))
        self.assertEqual(list(names.items()), [("a", "b"), ("b", "c")])
        names["a"] = "z"
        names["d"] = "y"
        self.assertEqual((told.left, told.right), (plus(name("b"), num(1)), name("c")))
        self.assertEqual(renamed(saying, names).left, plus(name("z"), num(1)))

    def test_there_and_back(self):
        saying = read_saying("(a + (b * 3)) under (c ^ a)")
        there = renamed(saying, {"a": "x", "b": "y", "c": "z"})
        self.assertEqual(names_in(there), ["x", "y", "z"])
        self.assertEqual(renamed(there, {"x": "a", "y": "b", "z": "c"}), saying)

    def test_by_names(self):
        self.assertEqual(renamed(names={"a": "b"}, saying=read_saying("a = 1")), read_saying("b = 1"))


if __name__ == "__main__":
    unittest.main()
