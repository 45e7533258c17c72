import random
import unittest

from runsums.answers import answer_of, least_c
from runsums.errors import NoAnswer, NoBegin
from runsums.leading import sayings_of
from runsums.looking import far_off, first_wrong
from runsums.naming import names_of
from runsums.programs import Program
from runsums.runs import ran
from tests.samples import MOVE, by_chance, double, fourteen, laid_out, move, refusal, three_down, two_stops, up

STOP = [("stop",)]


def stops(rows, boxes=1):
    """A program that stops at once, with so many rows."""
    return Program(boxes, STOP * rows)


def least_by_trying(program, stands):
    c = 1
    while not (2 ** c > 2 * sum(stands[0][1]) and 2 ** c > len(program)
               and all(2 ** c > 2 * held for _, contents in stands for held in contents)):
        c += 1
    return c


class TestLeastC(unittest.TestCase):
    def test_contents(self):
        """h, half of q, is greater than the contents: just a power of two needs one more."""
        for contents, c in [(0, 1), (1, 2), (2, 3), (3, 3), (4, 4), (7, 4), (8, 5), (255, 9), (256, 10), (500, 10),
                            (511, 10), (512, 11)]:
            with self.subTest(contents=contents):
                self.assertEqual(least_c(stops(1), [contents]), c)

    def test_the_sum_of_the_begin(self):
        self.assertEqual(least_c(stops(1, 5), [3, 3, 3, 3, 3]), 5)
        self.assertEqual(least_c(stops(1, 5), [3, 3, 3, 3, 4]), 6)
        self.assertEqual(least_c(stops(1, 5), [500] * 5), 13)
        self.assertEqual(least_c(stops(1, 2), [4, 3]), 4)
        self.assertEqual(least_c(stops(1, 2), [4, 4]), 5)

    def test_contents_on_the_way(self):
        for raised in range(1, 10):
            up_only = Program(1, [("raise", 0)] * raised + STOP)
            up_and_down = Program(1, [("raise", 0)] * raised + [("lower", 0)] * min(raised, 13 - raised) + STOP)
            for program in (up_only, up_and_down):
                self.assertEqual(least_c(program, [0]), least_by_trying(program, ran(program, [0])[1]))
        self.assertEqual(least_c(Program(2, [("raise", 1)] * 7 + STOP), [0, 0]), 4)
        self.assertEqual(least_c(Program(2, [("raise", 1)] * 8 + STOP), [0, 0]), 5)
        self.assertEqual(least_c(Program(1, [("raise", 0), ("lower", 0)] + STOP), [3]), 4)

    def test_rows(self):
        """q is greater than the number of rows: just a power of two needs one more."""
        for rows, c in [(1, 1), (2, 2), (3, 2), (4, 3), (7, 3), (8, 4), (14, 4)]:
            with self.subTest(rows=rows):
                self.assertEqual(least_c(stops(rows), [0]), c)
                self.assertEqual(least_c(stops(rows), [1]), max(2, c))

    def test_lists_tuples_and_names(self):
        self.assertEqual(least_c(move(), [2, 3]), 4)
        self.assertEqual(least_c(move(), (2, 3)), 4)
        self.assertEqual(least_c(program=move(), begin=(2, 3), most=10), 4)
        self.assertIs(type(least_c(move(), (2, 3))), int)

    def test_refusals(self):
        self.assertEqual(refusal(NoBegin, least_c, move(), (2,)).many, 2)
        self.assertEqual(refusal(NoAnswer, least_c, up(), (2,)).word, "going")
        self.assertEqual(refusal(NoAnswer, least_c, three_down(), (2,)).word, "stuck")
        self.assertEqual(refusal(NoAnswer, least_c, move(), (2, 3), 8).word, "going")
        self.assertEqual(least_c(move(), (2, 3), 9), 4)


class TestAnswerOf(unittest.TestCase):
    def is_answer(self, program, begin, more=0, most=200):
        word, stands = ran(program, begin, most)
        self.assertEqual(word, "stopped")
        answer = answer_of(program, begin, more, most)
        c = least_by_trying(program, stands) + more
        self.assertEqual(list(answer.items()), list(laid_out(program, stands, c).items()))
        self.assertEqual(list(answer), names_of(program))
        self.assertEqual({type(number) for number in answer.values()}, {int})
        sayings = sayings_of(program)
        self.assertIsNone(first_wrong(sayings, answer))
        self.assertEqual(far_off(sayings, answer), 0)

    def test_by_hand(self):
        self.assertEqual(list(answer_of(Program(1, [("if", 0, 3), ("lower", 0), ("go", 0), ("stop",)]), [1]).items()), [
            ("x0", 1), ("y0", 0), ("s", 4), ("c", 3), ("h", 4), ("d", 2), ("q", 8), ("g", 3), ("i", 0o11111),
            ("m", 0o33333), ("r0", 0o00011), ("l0", 0o01001), ("l1", 0o00010), ("l2", 0o00100), ("l3", 0o10000),
            ("e0", 0o111110 - 0o22)])

    def test_a_run_of_no_step(self):
        self.assertEqual(list(answer_of(stops(1), [0]).items()), [
            ("x0", 0), ("y0", 0), ("s", 0), ("c", 1), ("h", 1), ("d", 0), ("q", 2), ("g", 0), ("i", 1), ("m", 0),
            ("r0", 0), ("l0", 1)])
        self.is_answer(stops(1), [0])
        self.is_answer(stops(14, 5), [500, 400, 0, 1, 500], 8)
        self.assertEqual(answer_of(stops(1), [5], most=0)["s"], 0)

    def test_several(self):
        for program, begin in [(move(), (3, 1)), (move(), (0, 0)), (double(), (3, 0, 0, 0)), (double(), (2, 1, 5, 1)),
                               (two_stops(), (1, 0)), (two_stops(), (0, 3)), (fourteen(), (0, 4, 1, 0, 9)),
                               (fourteen(), (500, 1, 500, 500, 300)), (three_down(), (3,)), (three_down(), (500,))]:
            with self.subTest(rows=program.rows, begin=begin):
                for more in range(9):
                    self.is_answer(program, begin, more)
                    self.is_answer(program, list(begin), more)

    def test_by_chance(self):
        chance = random.Random(17)
        stopped = 0
        for _ in range(400):
            program = by_chance(chance)
            begin = [chance.choice([0, 1, 2, 3, 4, 7, 8, 100, 500]) for _ in range(program.boxes)]
            word = ran(program, begin)[0]
            if word == "stopped":
                stopped += 1
                self.is_answer(program, begin, chance.randrange(9))
            else:
                self.assertEqual(refusal(NoAnswer, answer_of, program, begin).word, word)
        self.assertGreater(stopped, 100)

    def test_200_steps(self):
        # Four steps for each one that is taken out, and four to the stop.
        program = Program(1, [("if", 0, 4), ("lower", 0), ("go", 3), ("go", 0), ("go", 5), ("go", 6), ("go", 7),
                              ("stop",)])
        self.assertEqual(len(ran(program, [49])[1]), 201)
        self.is_answer(program, [49])
        self.is_answer(program, [49], 8)
        self.assertEqual(answer_of(program, [49])["s"], 200)
        self.assertEqual(least_c(program, [49]), 7)
        self.assertEqual(refusal(NoAnswer, least_c, program, [50]).word, "going")
        self.assertEqual(refusal(NoAnswer, answer_of, program, [50]).word, "going")
        self.assertEqual(refusal(NoAnswer, answer_of, program, [49], most=199).word, "going")

    def test_most(self):
        self.assertEqual(answer_of(move(), (2, 3), 0, 9), answer_of(move(), (2, 3)))
        self.assertEqual(refusal(NoAnswer, answer_of, move(), (2, 3), 0, 8).word, "going")
        self.assertEqual(refusal(NoAnswer, answer_of, move(), (2, 3), 0, 0).word, "going")
        self.assertEqual(answer_of(move(), (0, 3), most=1)["s"], 1)

    def test_no_answer(self):
        self.assertEqual(refusal(NoAnswer, answer_of, up(), (0,)).word, "going")
        self.assertEqual(refusal(NoAnswer, answer_of, Program(1, [("go", 0)]), (0,)).word, "going")
        for held in (0, 1, 2):
            self.assertEqual(refusal(NoAnswer, answer_of, three_down(), (held,)).word, "stuck")
        self.assertEqual(refusal(NoAnswer, answer_of, three_down(), (2,), 0, 1).word, "going")
        self.assertEqual(refusal(NoAnswer, answer_of, three_down(), (2,), 0, 2).word, "stuck")

    def test_no_begin_goes_ahead(self):
        for begin in ([], [1, 2], (0, 0, 0)):
            self.assertEqual(refusal(NoBegin, answer_of, up(), begin).many, 1)
            self.assertEqual(refusal(NoBegin, answer_of, three_down(), begin).many, 1)
        for begin in ([], [1], (0, 0, 0)):
            self.assertEqual(refusal(NoBegin, answer_of, move(), begin).many, 2)

    def test_more(self):
        least = least_c(move(), (4, 4))
        for more in range(9):
            answer = answer_of(move(), (4, 4), more)
            self.assertEqual((answer["c"], answer["q"], answer["h"]), (least + more, 2 ** (least + more),
                                                                     2 ** (least + more - 1)))

    def test_many_thousands_of_figures(self):
        program = move()
        self.is_answer(program, [900, 5], 8, 4000)
        answer = answer_of(program, [900, 5], 8, 4000)
        self.assertGreater(answer["i"], 10 ** 20000)
        self.assertEqual(answer["s"], 3601)

    def test_what_is_handed_in_stays(self):
        program, begin = move(), [2, 1]
        answer = answer_of(program, begin)
        answer["x0"] = 77
        del answer["s"]
        begin[0] = 1
        self.assertEqual(answer_of(program, [2, 1])["x0"], 2)
        self.assertIn("s", answer_of(program, [2, 1]))
        self.assertEqual(begin, [1, 1])
        self.assertEqual((program.boxes, program.rows), (2, tuple(MOVE)))

    def test_by_names(self):
        self.assertEqual(answer_of(most=100, more=2, begin=(1, 2), program=move()), answer_of(move(), (1, 2), 2))


if __name__ == "__main__":
    unittest.main()
