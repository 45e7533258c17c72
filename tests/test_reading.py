import random
import unittest

from runsums.answers import answer_of, least_c
from runsums.errors import NoAnswer, NoNumber, TooGreat, Wrong
from runsums.leading import sayings_of
from runsums.looking import far_off, first_wrong
from runsums.naming import names_of
from runsums.programs import Program
from runsums.reading import run_of
from runsums.runs import ran
from tests.samples import MOVE, by_chance, double, fourteen, laid_out, move, refusal, three_down, two_stops, up

MOST = 1000000

STOPPING = [
    (Program(1, [("stop",)]), (0,)),
    (Program(5, [("stop",)] * 14), (500, 0, 1, 2, 3)),
    (move(), (0, 0)),
    (move(), (3, 1)),
    (double(), (2, 1, 5, 1)),
    (two_stops(), (1, 0)),
    (two_stops(), (0, 3)),
    (three_down(), (3,)),
    (fourteen(), (0, 4, 1, 0, 9)),
    (Program(1, [("if", 0, 1), ("if", 0, 3), ("go", 3), ("raise", 0), ("stop",)]), (0,)),
]


class TestRunOf(unittest.TestCase):
    def test_by_hand(self):
        answer = answer_of(move(), (1, 0))
        self.assertEqual(run_of(move(), answer), [
            (0, (1, 0)), (1, (1, 0)), (2, (0, 0)), (3, (0, 1)), (0, (0, 1)), (4, (0, 1))])

    def test_read_back(self):
        for program, begin in STOPPING:
            for more in range(9):
                with self.subTest(rows=program.rows, begin=begin, more=more):
                    self.assertEqual(run_of(program, answer_of(program, begin, more)), ran(program, begin)[1])

    def test_by_chance(self):
        chance = random.Random(20)
        for _ in range(300):
            program = by_chance(chance)
            begin = [chance.randrange(5) for _ in range(program.boxes)]
            word, stands = ran(program, begin)
            if word == "stopped":
                self.assertEqual(run_of(program, answer_of(program, begin, chance.randrange(9))), stands)

    def test_kinds(self):
        stands = run_of(double(), answer_of(double(), (1, 2, 3, 0)))
        self.assertIs(type(stands), list)
        for stand in stands:
            self.assertEqual([type(thing) for thing in stand], [int, tuple])
            self.assertEqual([type(thing) for thing in stand[1]], [int] * 4)

    def test_further_names_and_another_order(self):
        answer = answer_of(move(), (2, 1))
        stands = ran(move(), (2, 1))[1]
        further = {"z": 7, "l9": 10 ** 700, **answer, "kta": 10 ** 5000, "e1": 3, "x2": 1, "r2": 0}
        self.assertEqual(run_of(move(), further), stands)
        for names in (sorted(answer), sorted(answer, reverse=True)):
            self.assertEqual(run_of(move(), {name: answer[name] for name in names}), stands)

    def test_contents_above_500(self):
        for held in (501, 10 ** 6, 10 ** 300):
            program = Program(2, [("lower", 0), ("raise", 1), ("if", 1, 0), ("stop",)])
            begin = (held, held + 1)
            self.assertEqual(run_of(program, answer_of(program, begin)), ran(program, begin)[1])

    def test_many_thousands_of_figures(self):
        answer = answer_of(move(), (900, 5), 8, 4000)
        self.assertEqual(run_of(move(), answer), ran(move(), (900, 5), 4000)[1])

    def test_great_c(self):
        """Any c that is great enough does, also far more than eight above the least one."""
        program, begin = double(), (2, 1, 0, 1)
        stands = ran(program, begin)[1]
        for more in (9, 50, 1000):
            answer = laid_out(program, stands, least_c(program, begin) + more)
            self.assertEqual(run_of(program, answer), stands)

    def test_what_is_told_is_new(self):
        program, answer = move(), answer_of(move(), (2, 1))
        kept = list(answer.items())
        first = run_of(program, answer)
        first.clear()
        self.assertEqual(run_of(program, answer), ran(move(), (2, 1))[1])
        self.assertEqual(list(answer.items()), kept)
        self.assertEqual((program.boxes, program.rows), (2, tuple(MOVE)))

    def test_by_names(self):
        self.assertEqual(run_of(answer=answer_of(move(), (0, 1)), program=move()), [(0, (0, 1)), (4, (0, 1))])


class TestWrong(unittest.TestCase):
    def wrong_at(self, answer, at, **otherwise):
        with self.subTest(otherwise=otherwise):
            self.assertEqual(refusal(Wrong, run_of, move(), {**answer, **otherwise}).at, at)

    def test_each_kind_of_name(self):
        """Numbers of the run from (3, 1), otherwise in one place: the first saying that speaks of it."""
        answer = answer_of(move(), (3, 1))
        q, i = answer["q"], answer["i"]
        self.assertEqual((answer["s"], answer["c"], q), (13, 4, 16))
        for by in (-1, 1):
            for name, at in [("x0", 0), ("x1", 0), ("h", 0), ("d", 0), ("q", 1), ("c", 2), ("g", 3), ("i", 4),
                             ("s", 4), ("m", 5), ("e0", 16), ("y1", 23)]:
                self.wrong_at(answer, at, **{name: answer[name] + by})
        self.wrong_at(answer, 22, y0=1)
        self.wrong_at(answer, 0, x0=4, x1=1)
        self.wrong_at(answer, 22, x0=2, x1=2)
        self.wrong_at(answer, 6, r0=answer["r0"] + 8)
        self.wrong_at(answer, 7, r1=answer["r1"] + 8)
        self.wrong_at(answer, 16, r0=answer["r0"] + 1)
        self.wrong_at(answer, 22, r0=answer["r0"] - 1, e0=answer["e0"] + 2)
        self.wrong_at(answer, 23, r1=answer["r1"] + 1)
        for k in range(5):
            self.wrong_at(answer, 8 + k, **{f"l{k}": answer[f"l{k}"] + 2})
            self.wrong_at(answer, 8 + k, **{f"l{k}": answer[f"l{k}"] + i * q})
            self.wrong_at(answer, 13, **{f"l{k}": 0})
        self.wrong_at(answer, 14, l0=answer["l0"] - 1, l1=answer["l1"] + 1)
        self.wrong_at(answer, 15, l4=answer["l4"] * 0, l0=answer["l0"] + answer["l4"])

    def test_where_the_run_goes_on(self):
        answer = answer_of(move(), (3, 1))
        q = answer["q"]

        def exchanged(t, one, other):
            return {one: answer[one] - q ** t, other: answer[other] + q ** t}

        self.assertEqual([row for row, _ in run_of(move(), answer)], [0, 1, 2, 3, 0, 1, 2, 3, 0, 1, 2, 3, 0, 4])
        self.wrong_at(answer, 17, **exchanged(1, "l1", "l2"))
        self.wrong_at(answer, 19, **exchanged(2, "l2", "l3"))
        self.wrong_at(answer, 20, **exchanged(3, "l3", "l2"))
        self.wrong_at(answer, 21, **exchanged(4, "l0", "l3"))
        # At the end no stop's row, so that is told first.
        self.wrong_at(answer, 15, **exchanged(13, "l4", "l1"))

    def test_an_if_that_goes_on_at_the_wrong_row(self):
        """At the goal though the box isn't empty, at the next row though it is, and at neither."""
        program = Program(1, [("if", 0, 2), ("stop",), ("stop",)])
        for held, wrong_row in [(0, 1), (1, 2), (2, 2)]:
            answer = laid_out(program, [(0, (held,)), (wrong_row, (held,))], 3)
            self.assertEqual(refusal(Wrong, run_of, program, answer).at, 15)
        # At neither of both.
        for held in (0, 1):
            answer = laid_out(program, [(0, (held,)), (0, (held,)), (2 - held, (held,))], 3)
            self.assertEqual(refusal(Wrong, run_of, program, answer).at, 14)

    def test_runs_that_do_not_stop(self):
        """Laid out as if it had stopped where it was left, a run that goes on or is stuck is no answer."""
        for program, begin, most in [(up(), (0,), 5), (move(), (3, 1), 7), (three_down(), (2,), 200)]:
            word, stands = ran(program, begin, most)
            self.assertNotEqual(word, "stopped")
            sayings = sayings_of(program)
            for behind in range(1, len(stands) + 1):
                answer = laid_out(program, stands[:behind], 6)
                at = refusal(Wrong, run_of, program, answer).at
                self.assertEqual(str(sayings[at]).split(" = ")[-1], "(2 ^ (c * s))")
                self.assertGreater(far_off(sayings, answer), 0)

    def test_lowering_of_an_empty_box(self):
        program = three_down()
        stands = [(0, (2,)), (1, (1,)), (2, (0,)), (3, (0,))]
        self.assertEqual(refusal(Wrong, run_of, program, laid_out(program, stands, 3)).at, 17)

    def test_c_that_is_too_small(self):
        program, begin = move(), (3, 1)
        stands = ran(program, begin)[1]
        for c in range(1, least_c(program, begin)):
            answer = laid_out(program, stands, c)
            if min(answer.values()) >= 0:
                refusal(Wrong, run_of, program, answer)


class TestRefusals(unittest.TestCase):
    def test_no_number(self):
        for program, begin in STOPPING:
            answer = answer_of(program, begin)
            for name in names_of(program):
                less = {other: number for other, number in answer.items() if other != name}
                self.assertEqual(refusal(NoNumber, run_of, program, less).name, name)
        self.assertEqual(refusal(NoNumber, run_of, move(), {}).name, "h")
        self.assertEqual(refusal(NoNumber, run_of, move(), {"h": 1}).name, "x0")
        self.assertEqual(refusal(NoNumber, run_of, move(), {"h": 1, "x0": 0}).name, "x1")

    def test_wrong_goes_ahead_of_what_stands_behind(self):
        answer = answer_of(move(), (3, 1))
        del answer["m"]
        self.assertEqual(refusal(Wrong, run_of, move(), {**answer, "q": 17}).at, 1)
        self.assertEqual(refusal(NoNumber, run_of, move(), answer).name, "m")
        self.assertEqual(refusal(NoNumber, run_of, move(), {**answer, "y0": 17}).name, "m")

    def test_too_great(self):
        answer = answer_of(move(), (3, 1))
        for name, great in [("s", MOST), ("s", 10 ** 399), ("s", 10 ** 799), ("c", MOST), ("c", 10 ** 799),
                            ("s", 2 ** MOST - 1), ("c", 2 ** MOST - 1), ("h", 2 ** MOST), ("l0", 2 ** MOST),
                            ("q", 2 ** MOST), ("y0", 2 ** MOST - 1), ("s", MOST // 4)]:
            with self.subTest(name=name, bits=great.bit_length()):
                self.assertEqual(refusal(TooGreat, run_of, move(), {**answer, name: great}).most, MOST)

    def test_just_not_too_great(self):
        answer = answer_of(move(), (3, 1))
        self.assertEqual(refusal(Wrong, run_of, move(), {**answer, "c": MOST - 1}).at, 2)
        self.assertEqual(refusal(Wrong, run_of, move(), {**answer, "s": MOST // 4 - 2}).at, 4)

    def test_wrong_goes_ahead_of_too_great(self):
        answer = answer_of(move(), (3, 1))
        for great in (MOST, 10 ** 799, 2 ** MOST - 1):
            self.assertEqual(refusal(Wrong, run_of, move(), {**answer, "c": great, "d": 0}).at, 0)
            self.assertEqual(refusal(Wrong, run_of, move(), {**answer, "c": great, "h": 9, "d": 4}).at, 1)
            self.assertEqual(refusal(Wrong, run_of, move(), {**answer, "s": great, "g": 0}).at, 3)
            self.assertEqual(refusal(TooGreat, run_of, move(), {**answer, "s": great, "i": 0}).most, MOST)

    def test_no_answer_where_the_run_does_not_stop(self):
        for program, begin in [(up(), (0,)), (three_down(), (0,)), (three_down(), (2,)), (Program(1, [("go", 0)]), (5,)),
                               (fourteen(), (0, 0, 0, 0, 0))]:
            refusal(NoAnswer, answer_of, program, begin)


class TestTheWhole(unittest.TestCase):
    def refused(self, program, answer, name, number):
        at = refusal(Wrong, run_of, program, {**answer, name: number}).at
        sayings = sayings_of(program)
        self.assertEqual(first_wrong(sayings, {**answer, name: number}), at)
        self.assertGreater(far_off(sayings, {**answer, name: number}), 0)

    def test_one_more_or_less(self):
        for program, begin in STOPPING:
            for more in (0, 3):
                answer = answer_of(program, begin, more)
                for name, number in answer.items():
                    with self.subTest(rows=program.rows, begin=begin, name=name):
                        self.refused(program, answer, name, number + 1)
                        if number > 0:
                            self.refused(program, answer, name, number - 1)

    def test_one_bit_turned(self):
        for program, begin in STOPPING[:7]:
            answer = answer_of(program, begin)
            # Numbers that tell no run lie far apart: a bit in a hundred is enough of great ones.
            for name, number in answer.items():
                bits = number.bit_length() + 2 if name not in ("s", "c") else 10
                for bit in range(0, bits, 1 + bits // 40):
                    with self.subTest(rows=program.rows, begin=begin, name=name, bit=bit):
                        self.refused(program, answer, name, number ^ (1 << bit))

    def test_drawn_numbers(self):
        chance = random.Random(3)
        for program, begin in STOPPING:
            answer = answer_of(program, begin, 1)
            for _ in range(60):
                name = chance.choice(list(answer))
                drawn = chance.choice([answer[chance.choice(list(answer))], chance.getrandbits(40), 0, 1])
                if drawn != answer[name] and (name not in ("s", "c") or drawn < 1000):
                    self.refused(program, answer, name, drawn)


if __name__ == "__main__":
    unittest.main()
