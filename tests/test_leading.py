import random
import unittest

from runsums.leading import sayings_of
from runsums.programs import Program
from runsums.saytexts import read_saying, show_saying
from tests.making import name, num, plus, power, times
from tests.samples import MOVE, by_chance, double, fourteen, move, two_stops, up

P = "(2 ^ (c * (s + 1)))"


def texts_told(program):
    return [show_saying(saying) for saying in sayings_of(program)]


def sum_text(some):
    """The text of the sum of these, from the left."""
    told = some[0] if some else "0"
    for text in some[1:]:
        told = f"({told} + {text})"
    return told


def rows_of(program, *row):
    return [f"l{k}" for k, one in enumerate(program.rows) if one == row]


def texts_expected(program):
    """The sayings of promise 16, put down as texts, line by line as the document lists them."""
    boxes, many = range(program.boxes), len(program.rows)
    xs = sum_text([f"x{j}" for j in boxes])
    told = [
        f"h = (({xs} + 1) + d)", "q = (2 * h)", "q = (2 ^ c)", f"q = ({many + 1} + g)",
        f"((q * i) + 1) = ({P} + i)", "(m + i) = (h * i)"]
    told += [f"r{j} under m" for j in boxes]
    told += [f"l{k} under i" for k in range(many)]
    told.append(sum_text([f"l{k}" for k in range(many)]) + " = i")
    told.append("1 under l0")
    told.append(sum_text(rows_of(program, "stop")) + " = (2 ^ (c * s))")
    asking = {row[1] for k, row in enumerate(program.rows) if row[0] == "if" and row[2] != k + 1}
    told += [f"(e{j} + (2 * r{j})) = (q * i)" for j in boxes if j in asking]
    for k, row in enumerate(program.rows):
        if row[0] in ("raise", "lower") or row[0] == "if" and row[2] == k + 1:
            told.append(f"(q * l{k}) under l{k + 1}")
        elif row[0] == "go":
            told.append(f"(q * l{k}) under l{row[1]}")
        elif row[0] == "if":
            told.append(f"(q * l{k}) under (l{row[2]} + l{k + 1})")
            told.append(f"(q * l{k}) under (l{k + 1} + e{row[1]})")
    for j in boxes:
        raised, lowered = sum_text(rows_of(program, "raise", j)), sum_text(rows_of(program, "lower", j))
        told.append(f"((q * (r{j} + {raised})) + x{j}) = ((r{j} + (q * {lowered})) + ({P} * y{j}))")
    return told


class TestSayingsOf(unittest.TestCase):
    def test_term_by_term(self):
        """Each saying of a small program, with its terms as they are laid out."""
        program = Program(1, [("if", 0, 3), ("lower", 0), ("go", 0), ("stop",)])
        c, d, e0, g, h, i, l0, l1, l2, l3, m, q, r0, s, x0, y0 = [name(text) for text in [
            "c", "d", "e0", "g", "h", "i", "l0", "l1", "l2", "l3", "m", "q", "r0", "s", "x0", "y0"]]
        p = power(num(2), times(c, plus(s, num(1))))
        expected = [
            ("same", h, plus(plus(x0, num(1)), d)),
            ("same", q, times(num(2), h)),
            ("same", q, power(num(2), c)),
            ("same", q, plus(num(5), g)),
            ("same", plus(times(q, i), num(1)), plus(p, i)),
            ("same", plus(m, i), times(h, i)),
            ("under", r0, m),
            ("under", l0, i),
            ("under", l1, i),
            ("under", l2, i),
            ("under", l3, i),
            ("same", plus(plus(plus(l0, l1), l2), l3), i),
            ("under", num(1), l0),
            ("same", l3, power(num(2), times(c, s))),
            ("same", plus(e0, times(num(2), r0)), times(q, i)),
            ("under", times(q, l0), plus(l3, l1)),
            ("under", times(q, l0), plus(l1, e0)),
            ("under", times(q, l1), l2),
            ("under", times(q, l2), l0),
            ("same", plus(times(q, plus(r0, num(0))), x0), plus(plus(r0, times(q, l1)), times(p, y0))),
        ]
        told = sayings_of(program)
        self.assertEqual([(saying.word, saying.left, saying.right) for saying in told], expected)

    def test_one_row_alone(self):
        self.assertEqual(texts_told(Program(1, [("stop",)])), [
            "h = ((x0 + 1) + d)", "q = (2 * h)", "q = (2 ^ c)", "q = (2 + g)", f"((q * i) + 1) = ({P} + i)",
            "(m + i) = (h * i)", "r0 under m", "l0 under i", "l0 = i", "1 under l0", "l0 = (2 ^ (c * s))",
            f"((q * (r0 + 0)) + x0) = ((r0 + (q * 0)) + ({P} * y0))"])

    def test_no_stop(self):
        self.assertEqual(texts_told(Program(1, [("go", 0)])), [
            "h = ((x0 + 1) + d)", "q = (2 * h)", "q = (2 ^ c)", "q = (2 + g)", f"((q * i) + 1) = ({P} + i)",
            "(m + i) = (h * i)", "r0 under m", "l0 under i", "l0 = i", "1 under l0", "0 = (2 ^ (c * s))",
            "(q * l0) under l0", f"((q * (r0 + 0)) + x0) = ((r0 + (q * 0)) + ({P} * y0))"])

    def test_two_stops_and_a_box_that_is_asked(self):
        self.assertEqual(texts_told(two_stops()), [
            "h = (((x0 + x1) + 1) + d)", "q = (2 * h)", "q = (2 ^ c)", "q = (7 + g)", f"((q * i) + 1) = ({P} + i)",
            "(m + i) = (h * i)", "r0 under m", "r1 under m", "l0 under i", "l1 under i", "l2 under i", "l3 under i",
            "l4 under i", "l5 under i", "(((((l0 + l1) + l2) + l3) + l4) + l5) = i", "1 under l0",
            "(l2 + l5) = (2 ^ (c * s))", "(e1 + (2 * r1)) = (q * i)", "(q * l0) under (l3 + l1)",
            "(q * l0) under (l1 + e1)", "(q * l1) under l2", "(q * l3) under l4", "(q * l4) under l5",
            f"((q * (r0 + (l3 + l4))) + x0) = ((r0 + (q * 0)) + ({P} * y0))",
            f"((q * (r1 + 0)) + x1) = ((r1 + (q * l1)) + ({P} * y1))"])

    def test_ifs_and_goes_to_the_next_row_and_to_themselves(self):
        program = Program(2, [("if", 0, 1), ("if", 1, 1), ("go", 3), ("if", 0, 0), ("go", 4)])
        told = texts_told(program)
        self.assertEqual(told[15:17], ["0 = (2 ^ (c * s))", "(e0 + (2 * r0)) = (q * i)"])
        self.assertEqual(told[17:25], [
            "(e1 + (2 * r1)) = (q * i)", "(q * l0) under l1", "(q * l1) under (l1 + l2)", "(q * l1) under (l2 + e1)",
            "(q * l2) under l3", "(q * l3) under (l0 + l4)", "(q * l3) under (l4 + e0)", "(q * l4) under l4"])

    def test_five_boxes_and_fourteen_rows(self):
        told = texts_told(fourteen())
        l_of_all = "(((((((((((((l0 + l1) + l2) + l3) + l4) + l5) + l6) + l7) + l8) + l9) + l10) + l11) + l12) + l13)"
        self.assertEqual(told, [
            "h = ((((((x0 + x1) + x2) + x3) + x4) + 1) + d)", "q = (2 * h)", "q = (2 ^ c)", "q = (15 + g)",
            f"((q * i) + 1) = ({P} + i)", "(m + i) = (h * i)", "r0 under m", "r1 under m", "r2 under m", "r3 under m",
            "r4 under m", "l0 under i", "l1 under i", "l2 under i", "l3 under i", "l4 under i", "l5 under i",
            "l6 under i", "l7 under i", "l8 under i", "l9 under i", "l10 under i", "l11 under i", "l12 under i",
            "l13 under i", l_of_all + " = i", "1 under l0", "l13 = (2 ^ (c * s))", "(e1 + (2 * r1)) = (q * i)",
            "(e4 + (2 * r4)) = (q * i)", "(q * l0) under (l0 + l1)", "(q * l0) under (l1 + e4)",
            "(q * l1) under (l9 + l2)", "(q * l1) under (l2 + e1)", "(q * l2) under l3", "(q * l3) under l4",
            "(q * l4) under l5", "(q * l5) under (l12 + l6)", "(q * l5) under (l6 + e1)", "(q * l6) under l7",
            "(q * l7) under l8", "(q * l8) under l9", "(q * l9) under l10", "(q * l10) under (l13 + l11)",
            "(q * l10) under (l11 + e1)", "(q * l11) under l12", "(q * l12) under l0",
            f"((q * (r0 + l3)) + x0) = ((r0 + (q * 0)) + ({P} * y0))",
            f"((q * (r1 + 0)) + x1) = ((r1 + (q * l8)) + ({P} * y1))",
            f"((q * (r2 + 0)) + x2) = ((r2 + (q * 0)) + ({P} * y2))",
            f"((q * (r3 + 0)) + x3) = ((r3 + (q * 0)) + ({P} * y3))",
            f"((q * (r4 + l11)) + x4) = ((r4 + (q * l4)) + ({P} * y4))"])

    def test_many_programs(self):
        chance = random.Random(16)
        for program in [move(), up(), double(), fourteen(), *[by_chance(chance) for _ in range(200)]]:
            with self.subTest(rows=program.rows):
                self.assertEqual(texts_told(program), texts_expected(program))
                self.assertEqual(sayings_of(program), [read_saying(text) for text in texts_expected(program)])

    def tuples_throughout(self, term):
        self.assertIs(type(term), tuple)
        if term[0] == "num":
            self.assertEqual([type(thing) for thing in term], [str, int])
        elif term[0] == "name":
            self.assertEqual([type(thing) for thing in term], [str, str])
        else:
            self.assertIn(term[0], ("plus", "times", "power"))
            self.assertEqual(len(term), 3)
            self.tuples_throughout(term[1])
            self.tuples_throughout(term[2])

    def test_tuples_throughout(self):
        for program in (move(), double(), fourteen(), two_stops()):
            for saying in sayings_of(program):
                self.tuples_throughout(saying.left)
                self.tuples_throughout(saying.right)

    def test_the_list_is_new(self):
        program = move()
        first = sayings_of(program)
        self.assertIs(type(first), list)
        kept = list(first)
        first.pop()
        first[0] = None
        self.assertEqual(sayings_of(program), kept)
        self.assertEqual((program.boxes, program.rows), (2, tuple(MOVE)))

    def test_by_names(self):
        self.assertEqual(sayings_of(program=move()), sayings_of(move()))


if __name__ == "__main__":
    unittest.main()
