import unittest

from runsums.naming import asked_boxes, names_of
from runsums.programs import Program
from tests.samples import MOVE, move

LONE = ["s", "c", "h", "d", "q", "g", "i", "m"]


def numbered(letter, *numbers):
    return [f"{letter}{number}" for number in numbers]


class TestNamesOf(unittest.TestCase):
    def test_one_row(self):
        program = Program(1, [("stop",)])
        self.assertEqual(names_of(program), ["x0", "y0", *LONE, "r0", "l0"])
        program = Program(3, [("go", 0)])
        self.assertEqual(names_of(program), ["x0", "x1", "x2", "y0", "y1", "y2", *LONE, "r0", "r1", "r2", "l0"])

    def test_the_order(self):
        self.assertEqual(names_of(move()), [
            "x0", "x1", "y0", "y1", "s", "c", "h", "d", "q", "g", "i", "m", "r0", "r1", "l0", "l1", "l2", "l3", "l4",
            "e0"])

    def test_five_boxes_and_fourteen_rows(self):
        rows = [("if", 4, 0), ("if", 1, 9), ("if", 3, 3), ("raise", 0), ("lower", 2), ("if", 1, 0), ("if", 4, 4),
                ("if", 0, 8), ("stop",), ("go", 10), ("if", 2, 11), ("if", 0, 12), ("if", 1, 12), ("go", 0)]
        names = names_of(Program(5, rows))
        boxes = range(5)
        self.assertEqual(names, [
            *numbered("x", *boxes), *numbered("y", *boxes), *LONE, *numbered("r", *boxes), *numbered("l", *range(14)),
            "e1", "e4"])
        self.assertEqual(len(names), len(set(names)))

    def test_no_rows_that_speak_of_boxes(self):
        self.assertEqual(names_of(Program(2, [("go", 1), ("stop",)])), [
            "x0", "x1", "y0", "y1", *LONE, "r0", "r1", "l0", "l1"])

    def test_the_list_is_new(self):
        program = move()
        first = names_of(program)
        kept = list(first)
        first.append("z")
        first[0] = "w"
        self.assertEqual(names_of(program), kept)
        self.assertEqual((program.boxes, program.rows), (2, tuple(MOVE)))
        self.assertIs(type(names_of(program)), list)
        names_of(program).clear()
        self.assertEqual(names_of(program), kept)

    def test_by_names(self):
        self.assertEqual(names_of(program=move()), names_of(move()))


class TestAskedBoxes(unittest.TestCase):
    def asked(self, boxes, rows):
        return asked_boxes(Program(boxes, rows))

    def test_none(self):
        self.assertEqual(self.asked(1, [("stop",)]), [])
        self.assertEqual(self.asked(2, [("raise", 1), ("lower", 0), ("go", 0)]), [])

    def test_goals(self):
        self.assertEqual(self.asked(1, [("if", 0, 1), ("stop",)]), [])
        self.assertEqual(self.asked(1, [("if", 0, 0), ("stop",)]), [0])
        self.assertEqual(self.asked(1, [("if", 0, 2), ("stop",), ("stop",)]), [0])
        self.assertEqual(self.asked(1, [("raise", 0), ("if", 0, 0), ("stop",)]), [0])
        self.assertEqual(self.asked(1, [("raise", 0), ("if", 0, 2), ("stop",)]), [])

    def test_several_of_one_box(self):
        self.assertEqual(self.asked(2, [("if", 1, 0), ("if", 1, 2), ("if", 1, 0), ("stop",)]), [1])
        self.assertEqual(self.asked(2, [("if", 1, 1), ("if", 1, 2), ("if", 1, 0), ("stop",)]), [1])
        self.assertEqual(self.asked(2, [("if", 1, 1), ("if", 1, 2), ("if", 1, 3), ("stop",)]), [])

    def test_rising(self):
        rows = [("if", 4, 0), ("if", 2, 0), ("if", 0, 0), ("if", 3, 4), ("if", 4, 2), ("stop",)]
        self.assertEqual(self.asked(5, rows), [0, 2, 4])

    def test_goes_do_not_ask(self):
        self.assertEqual(self.asked(1, [("go", 0), ("go", 0), ("stop",)]), [])

    def test_the_list_is_new(self):
        program = move()
        first = asked_boxes(program)
        self.assertEqual(first, [0])
        first.append(1)
        self.assertEqual(asked_boxes(program=program), [0])
        self.assertIs(type(asked_boxes(Program(1, [("stop",)]))), list)
        self.assertEqual(program, move())


if __name__ == "__main__":
    unittest.main()
