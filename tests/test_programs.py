import itertools
import unittest
from unittest import mock

from runsums.errors import NoProgram
from runsums.programs import Program, goal_of, moves_of
from tests.samples import MOVE, move, refusal

# Every kind of row, in a program of three boxes.
ALL_KINDS = [("raise", 0), ("lower", 1), ("if", 2, 5), ("go", 4), ("stop",), ("if", 0, 0), ("go", 6)]


def refused(boxes, rows):
    """The word and the number with which the program is refused."""
    error = refusal(NoProgram, Program, boxes, rows)
    return error.word, error.at


class TestMaking(unittest.TestCase):
    def test_of_a_list(self):
        program = Program(3, list(ALL_KINDS))
        self.assertEqual(program.boxes, 3)
        self.assertIs(type(program.rows), tuple)
        self.assertEqual(program.rows, tuple(ALL_KINDS))

    def test_of_a_tuple(self):
        program = Program(3, tuple(ALL_KINDS))
        self.assertIs(type(program.rows), tuple)
        self.assertEqual(program.rows, tuple(ALL_KINDS))

    def test_by_names(self):
        self.assertEqual(Program(rows=MOVE, boxes=2), Program(2, MOVE))

    def test_rows_stay_when_the_list_is_changed_behind(self):
        rows = list(MOVE)
        program = Program(2, rows)
        self.assertEqual(rows, MOVE)
        rows[0] = ("stop",)
        rows.append(("stop",))
        self.assertEqual(program.rows, tuple(MOVE))
        self.assertEqual(len(program), 5)

    def test_one_box_and_five(self):
        self.assertEqual(Program(1, [("raise", 0), ("stop",)]).boxes, 1)
        self.assertEqual(Program(5, [("raise", 4), ("stop",)]).boxes, 5)

    def test_one_row_and_fourteen(self):
        self.assertEqual(Program(1, [("stop",)]).rows, (("stop",),))
        self.assertEqual(Program(1, [("go", 0)]).rows, (("go", 0),))
        rows = [("if", 0, 13)] * 13 + [("go", 13)]
        self.assertEqual(Program(1, rows).rows, tuple(rows))


class TestShowing(unittest.TestCase):
    def test_len(self):
        self.assertEqual(len(Program(1, [("stop",)])), 1)
        self.assertEqual(len(move()), 5)
        self.assertEqual(len(Program(5, [("stop",)] * 14)), 14)

    def test_str(self):
        self.assertEqual(str(Program(1, [("stop",)])), "boxes 1\nstop")
        self.assertEqual(
            str(Program(3, ALL_KINDS)),
            "boxes 3\nraise 0\nlower 1\nif 2 5\ngo 4\nstop\nif 0 0\ngo 6",
        )
        self.assertTrue(str(Program(1, [("if", 0, 13)] * 13 + [("go", 10)])).endswith("if 0 13\ngo 10"))

    def test_repr(self):
        self.assertEqual(repr(Program(1, [("stop",)])), "Program(1, 1)")
        self.assertEqual(repr(move()), "Program(2, 5)")
        self.assertEqual(repr(Program(5, [("stop",)] * 14)), "Program(5, 14)")


class TestEquality(unittest.TestCase):
    def test_equal_programs(self):
        self.assertTrue(Program(2, list(MOVE)) == Program(2, tuple(MOVE)))
        self.assertFalse(Program(2, list(MOVE)) != Program(2, tuple(MOVE)))

    def test_other_boxes_or_rows(self):
        for other in [Program(3, MOVE), Program(2, MOVE + [("stop",)]), Program(2, MOVE[:4] + [("go", 4)]),
                      Program(2, [("if", 1, 4)] + MOVE[1:])]:
            with self.subTest(other=other):
                self.assertFalse(move() == other)
                self.assertTrue(move() != other)

    def test_things_of_other_kinds(self):
        program = move()
        for other in [None, 0, 2, True, str(program), repr(program), program.rows, list(program.rows),
                      (2, program.rows), {}, object(), Program]:
            with self.subTest(other=other):
                self.assertFalse(program == other)
                self.assertTrue(program != other)
                self.assertFalse(other == program)
                self.assertTrue(other != program)

    def test_a_thing_with_the_same_fields(self):
        other = mock.Mock(boxes=2, rows=tuple(MOVE))
        self.assertFalse(move() == other)
        self.assertTrue(move() != other)


class TestRefusals(unittest.TestCase):
    def test_boxes(self):
        for boxes in [0, 6, -1, -5, 100, 10 ** 30]:
            with self.subTest(boxes=boxes):
                self.assertEqual(refused(boxes, [("stop",)]), ("boxes", -1))

    def test_rows(self):
        for rows in [[], (), [("stop",)] * 15, [("stop",)] * 100]:
            with self.subTest(rows=len(rows)):
                self.assertEqual(refused(1, rows), ("rows", -1))

    def test_row_of_no_such_form(self):
        for row in [(), ("",), ("jump",), ("Stop",), ("stop ",), ("boxes", 1), ("raise",), ("lower",), ("go",),
                    ("if",), ("if", 0), ("raise", 0, 0), ("lower", 0, 0), ("go", 0, 0), ("if", 0, 0, 0),
                    ("stop", 0), ("raise", "0"), ("lower", ""), ("go", "0"), ("if", "0", 0), ("if", 0, "0"),
                    ("raise", "raise"), (0,), (0, 0), (0, "raise"), (1, 0, 0), ("go", -1, -1),
                    ("raise", 9, 9), ("if", 9, 9, 9)]:
            for at in range(3):
                rows = [("raise", 0)] * at + [row, ("stop",)]
                with self.subTest(row=row, at=at):
                    self.assertEqual(refused(1, rows), ("row", at))
                    self.assertEqual(refused(1, rows[:-1]), ("row", at))

    def test_rows_that_are_no_tuples_and_truths_that_are_no_numbers(self):
        for row in [["raise", 0], ["stop"], [], ("raise", False), ("go", True), ("if", 0, False), ("if", False, 0)]:
            with self.subTest(row=row):
                self.assertEqual(refused(1, [row, ("stop",)]), ("row", 0))

    def test_box(self):
        for boxes in (1, 2, 5):
            for box in (-1, -2, boxes, boxes + 1, 10 ** 20):
                for row in [("raise", box), ("lower", box), ("if", box, 0), ("if", box, 99)]:
                    with self.subTest(boxes=boxes, row=row):
                        self.assertEqual(refused(boxes, [row, ("stop",)]), ("box", 0))
                        self.assertEqual(refused(boxes, [("stop",), row]), ("box", 1))

    def test_greatest_and_least_box(self):
        for boxes in range(1, 6):
            for box in (0, boxes - 1):
                rows = [("raise", box), ("lower", box), ("if", box, 0), ("stop",)]
                self.assertEqual(Program(boxes, rows).rows, tuple(rows))

    def test_goal(self):
        for many in (2, 3, 14):
            for goal in (-1, -many, many, many + 1, 10 ** 20):
                for row in [("go", goal), ("if", 0, goal)]:
                    with self.subTest(many=many, row=row):
                        rows = [("stop",)] * (many - 1)
                        self.assertEqual(refused(1, [row] + rows), ("goal", 0))
                        self.assertEqual(refused(1, rows + [row]), ("goal", many - 1))

    def test_greatest_and_least_goal(self):
        for many in range(1, 15):
            for goal in (0, many - 1):
                rows = [("if", 0, goal)] * (many - 1) + [("go", goal)]
                self.assertEqual(Program(1, rows).rows, tuple(rows))

    def test_end(self):
        for row in [("raise", 0), ("lower", 0), ("if", 0, 0)]:
            self.assertEqual(refused(1, [row]), ("end", 0))
            self.assertEqual(refused(1, [("stop",), ("go", 0), row]), ("end", 2))
            self.assertEqual(refused(1, [("stop",)] * 13 + [row]), ("end", 13))

    def test_boxes_go_ahead_of_rows(self):
        self.assertEqual(refused(0, []), ("boxes", -1))
        self.assertEqual(refused(6, [("stop",)] * 15), ("boxes", -1))
        self.assertEqual(refused(6, [()]), ("boxes", -1))

    def test_rows_go_ahead_of_each_row(self):
        self.assertEqual(refused(1, [()] * 15), ("rows", -1))
        self.assertEqual(refused(1, [("raise", 0)] * 15), ("rows", -1))

    def test_within_a_row(self):
        self.assertEqual(refused(1, [("if", 1, "x"), ("stop",)]), ("row", 0))
        self.assertEqual(refused(1, [("if", 1, 9), ("stop",)]), ("box", 0))
        self.assertEqual(refused(1, [("if", 0, 9), ("stop",)]), ("goal", 0))
        self.assertEqual(refused(1, [("if", 1, 9)]), ("box", 0))
        self.assertEqual(refused(1, [("if", 0, 9)]), ("goal", 0))

    def test_which_of_several_is_told_first(self):
        """Any three faults of rows, in any order: the first row's is told, its end at last."""
        faults = [(("jump",), "row"), (("if", 7, 77), "box"), (("if", 0, 77), "goal"), (("raise", 0), None)]
        for chosen in itertools.product(faults, repeat=3):
            rows = [row for row, _ in chosen]
            due = [(word, at) for at, (_, word) in enumerate(chosen) if word] + [("end", 2)]
            with self.subTest(rows=rows):
                self.assertEqual(refused(1, rows), due[0])

    def test_what_is_refused_is_not_changed(self):
        rows = [("raise", 0), ("if", 0, 9)]
        refused(1, rows)
        self.assertEqual(rows, [("raise", 0), ("if", 0, 9)])


class TestGoals(unittest.TestCase):
    def test_each_kind_of_row(self):
        program = Program(3, ALL_KINDS)
        told = [goal_of(program, k) for k in range(7)]
        self.assertEqual(told, [None, None, 5, 4, None, 0, 6])

    def test_by_names(self):
        self.assertEqual(goal_of(k=2, program=Program(3, ALL_KINDS)), 5)

    def test_greatest_goal(self):
        program = Program(1, [("if", 0, 13)] * 13 + [("go", 12)])
        self.assertEqual([goal_of(program, k) for k in range(14)], [13] * 13 + [12])


class TestMoves(unittest.TestCase):
    ROWS = [("raise", 1), ("lower", 0), ("raise", 0), ("raise", 1), ("if", 1, 0), ("lower", 2), ("lower", 0),
            ("raise", 1), ("go", 0)]

    def test_each_box_and_both_words(self):
        program = Program(4, self.ROWS)
        self.assertEqual([moves_of(program, j, "raise") for j in range(4)], [[2], [0, 3, 7], [], []])
        self.assertEqual([moves_of(program, j, "lower") for j in range(4)], [[1, 6], [], [5], []])

    def test_by_names(self):
        self.assertEqual(moves_of(word="lower", j=0, program=Program(4, self.ROWS)), [1, 6])

    def test_the_list_told_is_the_askers_own(self):
        program = Program(4, self.ROWS)
        told = moves_of(program, 1, "raise")
        told.append(99)
        told[0] = -1
        self.assertEqual(moves_of(program, 1, "raise"), [0, 3, 7])
        self.assertEqual(program.rows, tuple(self.ROWS))


if __name__ == "__main__":
    unittest.main()
