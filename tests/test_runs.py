import itertools
import unittest

from runsums.errors import NoBegin
from runsums.programs import Program
from runsums.runs import ran, step_from
from tests.samples import move, refusal, three_down, up


def walked(program, begin, most):
    """The same run as ran tells, found by a list of boxes that is changed in place."""
    boxes = list(begin)
    k = 0
    stands = []
    while True:
        stands.append((k, tuple(boxes)))
        word, *numbers = program.rows[k]
        if word == "stop":
            return "stopped", stands
        if word == "lower" and not boxes[numbers[0]]:
            return "stuck", stands
        if len(stands) == most + 1:
            return "going", stands
        k += 1
        if word == "raise":
            boxes[numbers[0]] += 1
        elif word == "lower":
            boxes[numbers[0]] -= 1
        elif word == "go" or not boxes[numbers[0]]:
            k = numbers[-1]


class TestStepFrom(unittest.TestCase):
    ROWS = [("raise", 1), ("lower", 0), ("if", 2, 5), ("go", 1), ("stop",), ("if", 0, 6), ("lower", 2), ("go", 7)]

    def setUp(self):
        self.program = Program(3, self.ROWS)

    def steps(self, row, contents):
        told = step_from(self.program, (row, contents))
        if told is not None:
            self.assertIs(type(told), tuple)
            self.assertEqual(len(told), 2)
            self.assertIs(type(told[0]), int)
            self.assertIs(type(told[1]), tuple)
        return told

    def test_raise(self):
        self.assertEqual(self.steps(0, (3, 0, 4)), (1, (3, 1, 4)))
        self.assertEqual(self.steps(0, (0, 7, 0)), (1, (0, 8, 0)))

    def test_lower(self):
        self.assertEqual(self.steps(1, (1, 5, 6)), (2, (0, 5, 6)))
        self.assertEqual(self.steps(1, (9, 0, 0)), (2, (8, 0, 0)))
        self.assertEqual(self.steps(6, (0, 0, 2)), (7, (0, 0, 1)))

    def test_lower_of_an_empty_box(self):
        self.assertIsNone(self.steps(1, (0, 5, 6)))
        self.assertIsNone(self.steps(6, (1, 1, 0)))

    def test_if(self):
        self.assertEqual(self.steps(2, (1, 2, 0)), (5, (1, 2, 0)))
        self.assertEqual(self.steps(2, (0, 0, 1)), (3, (0, 0, 1)))

    def test_if_of_which_the_goal_is_the_next_row(self):
        self.assertEqual(self.steps(5, (0, 1, 1)), (6, (0, 1, 1)))
        self.assertEqual(self.steps(5, (2, 1, 1)), (6, (2, 1, 1)))

    def test_go(self):
        self.assertEqual(self.steps(3, (0, 0, 0)), (1, (0, 0, 0)))
        self.assertEqual(self.steps(3, (1, 2, 3)), (1, (1, 2, 3)))
        self.assertEqual(self.steps(7, (1, 2, 3)), (7, (1, 2, 3)))

    def test_stop(self):
        self.assertIsNone(self.steps(4, (0, 0, 0)))
        self.assertIsNone(self.steps(4, (1, 2, 3)))

    def test_contents_greater_than_500(self):
        self.assertEqual(self.steps(0, (501, 700, 10 ** 20)), (1, (501, 701, 10 ** 20)))
        self.assertEqual(self.steps(1, (10 ** 20, 700, 1)), (2, (10 ** 20 - 1, 700, 1)))
        self.assertEqual(self.steps(2, (501, 700, 10 ** 20)), (3, (501, 700, 10 ** 20)))

    def test_by_names(self):
        self.assertEqual(step_from(stand=(0, (0, 0, 0)), program=self.program), (1, (0, 1, 0)))


class TestRan(unittest.TestCase):
    def test_a_run_that_stops(self):
        word, stands = ran(move(), [1, 4])
        self.assertEqual(word, "stopped")
        self.assertEqual(
            stands,
            [(0, (1, 4)), (1, (1, 4)), (2, (0, 4)), (3, (0, 5)), (0, (0, 5)), (4, (0, 5))],
        )

    def test_a_run_that_is_stuck(self):
        self.assertEqual(ran(three_down(), [1]), ("stuck", [(0, (1,)), (1, (0,))]))
        self.assertEqual(ran(three_down(), [0]), ("stuck", [(0, (0,))]))

    def test_a_run_that_goes_on(self):
        self.assertEqual(ran(up(), [5], 3), ("going", [(0, (5,)), (1, (6,)), (0, (6,)), (1, (7,))]))

    def test_the_kinds_of_what_is_told(self):
        told = ran(move(), [3, 3])
        self.assertIs(type(told), tuple)
        self.assertIs(type(told[0]), str)
        self.assertIs(type(told[1]), list)
        for stand in told[1]:
            self.assertIs(type(stand), tuple)
            self.assertIs(type(stand[0]), int)
            self.assertIs(type(stand[1]), tuple)

    def test_most(self):
        """Each most: none, one, just the steps that the run has, one fewer, one more, and all."""
        for program, begin, word, steps in [(move(), (2, 0), "stopped", 9), (three_down(), (2,), "stuck", 2),
                                            (three_down(), (3,), "stopped", 3), (three_down(), (0,), "stuck", 0),
                                            (Program(1, [("stop",)]), (0,), "stopped", 0)]:
            whole = ran(program, begin)
            self.assertEqual((whole[0], len(whole[1])), (word, steps + 1))
            for most in range(201):
                told, stands = ran(program, begin, most)
                with self.subTest(program=program, most=most):
                    self.assertEqual(told, word if most >= steps else "going")
                    self.assertEqual(stands, whole[1][:most + 1])

    def test_most_of_a_run_without_end(self):
        for most in (0, 1, 2, 199, 200):
            word, stands = ran(up(), (0,), most)
            self.assertEqual((word, len(stands)), ("going", most + 1))

    def test_most_is_200_where_none_is_told(self):
        word, stands = ran(up(), (0,))
        self.assertEqual((word, len(stands), stands[-1]), ("going", 201, (0, (100,))))
        # 4 steps for each in box 0, and 1 to the stop behind: 49 are moved in 197 steps, 50 in 201.
        self.assertEqual(ran(move(), (49, 0))[0], "stopped")
        self.assertEqual(ran(move(), (50, 0))[0], "going")
        self.assertEqual(len(ran(move(), (50, 0))[1]), 201)

    def test_a_run_of_just_200_steps(self):
        # 3 steps for each in box 0, but 2 for the last one.
        program = Program(1, [("lower", 0), ("if", 0, 3), ("go", 0), ("stop",)])
        word, stands = ran(program, (67,))
        self.assertEqual((word, len(stands), stands[-1]), ("stopped", 201, (3, (0,))))
        self.assertEqual(ran(program, (67,), 199), ("going", stands[:200]))
        longer = Program(1, [("go", 1), ("lower", 0), ("if", 0, 4), ("go", 1), ("stop",)])
        word, stands = ran(longer, (67,))
        self.assertEqual((word, len(stands), stands[-1]), ("going", 201, (2, (0,))))
        self.assertEqual(ran(longer, (67,), 201)[0], "stopped")

    def test_begin_as_a_list_and_as_a_tuple(self):
        begin = [2, 1]
        told = ran(move(), begin)
        self.assertEqual(begin, [2, 1])
        self.assertEqual(told, ran(move(), (2, 1)))
        begin[0] = 99
        self.assertEqual(told[1][0], (0, (2, 1)))

    def test_the_list_of_stands_is_the_askers_own(self):
        program = move()
        told = ran(program, (1, 1))[1]
        kept = list(told)
        told.reverse()
        told.append("more")
        self.assertEqual(ran(program, (1, 1))[1], kept)

    def test_contents_up_to_500_and_greater(self):
        self.assertEqual(ran(three_down(), (500,))[1][-1], (3, (497,)))
        self.assertEqual(ran(three_down(), (10 ** 30,))[1][-1], (3, (10 ** 30 - 3,)))

    def test_by_names(self):
        self.assertEqual(ran(most=1, begin=(1, 0), program=move()), ("going", [(0, (1, 0)), (1, (1, 0))]))

    def test_against_another_way(self):
        rows = [("raise", 0), ("lower", 0), ("lower", 1), ("if", 0, 3), ("if", 1, 0), ("go", 0), ("go", 2), ("stop",)]
        for chosen in itertools.product(rows, repeat=3):
            program = Program(2, list(chosen) + [("stop",)])
            for begin in [(0, 0), (1, 0), (0, 2), (3, 1)]:
                for most in (0, 1, 2, 5, 12):
                    self.assertEqual(ran(program, begin, most), walked(program, begin, most))

    def test_each_stand_is_the_step_from_the_one_ahead(self):
        for program, begin in [(move(), (5, 2)), (three_down(), (2,)), (up(), (0,))]:
            word, stands = ran(program, begin)
            for ahead, behind in zip(stands, stands[1:]):
                self.assertEqual(step_from(program, ahead), behind)
            self.assertEqual(step_from(program, stands[-1]) is None, word != "going")


class TestNoBegin(unittest.TestCase):
    def test_too_few_too_many_and_none(self):
        for begin in [(), [], (1,), (1, 2, 3), [0] * 6]:
            with self.subTest(begin=begin):
                self.assertEqual(refusal(NoBegin, ran, move(), begin).many, 2)
        self.assertEqual(refusal(NoBegin, ran, up(), (1, 2)).many, 1)
        self.assertEqual(refusal(NoBegin, ran, Program(5, [("stop",)]), (1, 2, 3, 4)).many, 5)

    def test_whatever_the_program_would_do(self):
        for program in [Program(3, [("stop",)]), Program(3, [("lower", 2), ("stop",)]), Program(3, [("go", 0)])]:
            for most in (0, 1, 200):
                self.assertEqual(refusal(NoBegin, ran, program, (0,), most).many, 3)
                self.assertEqual(refusal(NoBegin, ran, program, (0, 0, 0, 0), most=most).many, 3)


if __name__ == "__main__":
    unittest.main()
