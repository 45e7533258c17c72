import re
import unittest

from runsums.errors import NoProgram, NoText
from runsums.programs import Program
from runsums.progtexts import read_program, show_program
from tests.samples import MOVE, move, refusal, three_down, up

HEAD = re.compile("boxes (0|[1-9][0-9]?)")
LINE = re.compile("(raise|lower|go) (0|[1-9][0-9]?)|if (0|[1-9][0-9]?) (0|[1-9][0-9]?)|stop")


def wrong_line(text):
    """The first line that has no such form, None where there is none, by other means than the program's."""
    for at, line in enumerate(text.split("\n")):
        if not (LINE if at else HEAD).fullmatch(line):
            return at
    return None


def no_text_at(text):
    return refusal(NoText, read_program, text).at


def no_program(text):
    error = refusal(NoProgram, read_program, text)
    return error.word, error.at


class TestShowing(unittest.TestCase):
    def test_texts(self):
        self.assertEqual(show_program(move()), "boxes 2\nif 0 4\nlower 0\nraise 1\ngo 0\nstop")
        self.assertEqual(show_program(Program(1, [("stop",)])), "boxes 1\nstop")
        self.assertEqual(show_program(program=up()), "boxes 1\nraise 0\ngo 0")

    def test_a_goal_of_two_figures(self):
        rows = [("if", 4, 10)] + [("stop",)] * 12 + [("go", 13)]
        self.assertEqual(show_program(Program(5, rows)), "boxes 5\nif 4 10\n" + "stop\n" * 12 + "go 13")


class TestReading(unittest.TestCase):
    def test_read_back(self):
        for program in [move(), three_down(), up(), Program(5, [("stop",)] * 14),
                        Program(5, [("if", 4, 13)] * 13 + [("go", 10)])]:
            with self.subTest(program=program):
                told = read_program(show_program(program))
                self.assertEqual(told, program)
                self.assertIs(type(told), Program)
                self.assertIs(type(told.rows), tuple)
                self.assertEqual(show_program(told), show_program(program))

    def test_each_kind_of_row_with_each_number_is_read_back(self):
        for boxes in range(1, 6):
            for many in range(1, 15):
                rows = [("if", boxes - 1, k) for k in range(many - 1)] + [("go", many - 1)]
                program = Program(boxes, rows)
                self.assertEqual(read_program(show_program(program)), program)
                rows = [("raise", k % boxes) for k in range(many - 1)] + [("stop",)]
                program = Program(boxes, rows)
                self.assertEqual(read_program(show_program(program)), program)

    def test_by_name(self):
        self.assertEqual(read_program(text=show_program(move())), move())


class TestNoText(unittest.TestCase):
    def test_the_text_without_signs(self):
        self.assertEqual(no_text_at(""), 0)

    def test_lines_without_signs(self):
        self.assertEqual(no_text_at("\n"), 0)
        self.assertEqual(no_text_at("\nboxes 1\nstop"), 0)
        self.assertEqual(no_text_at("boxes 1\n\nstop"), 1)
        self.assertEqual(no_text_at("boxes 1\n"), 1)
        self.assertEqual(no_text_at("boxes 1\nstop\n"), 2)
        self.assertEqual(no_text_at("boxes 1\nstop\n\n"), 2)

    def test_a_nought_ahead(self):
        for text, at in [("boxes 01\nstop", 0), ("boxes 00\nstop", 0), ("boxes 1\nraise 00\nstop", 1),
                         ("boxes 1\nif 00 1\nstop", 1), ("boxes 1\nif 0 01\nstop", 1), ("boxes 1\nstop\ngo 00", 2)]:
            with self.subTest(text=text):
                self.assertEqual(no_text_at(text), at)

    def test_three_figures(self):
        for text, at in [("boxes 100\nstop", 0), ("boxes 001\nstop", 0), ("boxes 1\nraise 100\nstop", 1),
                         ("boxes 1\nif 100 0\nstop", 1), ("boxes 1\nif 0 100\nstop", 1), ("boxes 1\ngo 999", 1)]:
            with self.subTest(text=text):
                self.assertEqual(no_text_at(text), at)

    def test_a_blank_more_or_fewer(self):
        for line in ["if 0 0", "raise 0", "lower 0", "go 0", "stop"]:
            wrong = [" " + line, line + " ", line.replace(" ", "  ", 1), line.replace(" ", "", 1)]
            for text in wrong:
                if text != line:
                    with self.subTest(text=text):
                        self.assertEqual(no_text_at(f"boxes 1\nstop\n{text}\nstop"), 2)
        for head in [" boxes 1", "boxes 1 ", "boxes  1", "boxes1"]:
            with self.subTest(head=head):
                self.assertEqual(no_text_at(head + "\nstop"), 0)

    def test_other_words_and_numbers(self):
        for line in ["jump 0", "Stop", "STOP", "stop 0", "raise", "raise 0 0", "lower", "go", "go 0 0", "if", "if 0",
                     "if 0 0 0", "raise x", "raise -1", "raise +0", "raise 0x1", "raise 1_0", "boxes 1", "0", "0 raise",
                     "if 0 x", "if x 0", "go 1.", "stop\r", "raise\t0", "raise \u00b2", "raise \u0661", "stop;stop"]:
            with self.subTest(line=line):
                self.assertEqual(no_text_at(f"boxes 1\n{line}\nstop"), 1)
                self.assertEqual(no_text_at(f"boxes 1\nstop\nstop\n{line}"), 3)

    def test_each_sign_as_a_number(self):
        for sign in map(chr, range(32, 127)):
            for number in (sign, "1" + sign, sign + "1"):
                if not re.fullmatch("0|[1-9][0-9]?", number):
                    with self.subTest(number=number):
                        self.assertEqual(no_text_at(f"boxes {number}\nstop"), 0)
                        self.assertEqual(no_text_at(f"boxes 1\nraise {number}\nstop"), 1)
                        self.assertEqual(no_text_at(f"boxes 1\nif 0 {number}\nstop"), 1)

    def test_another_first_line(self):
        for head in ["boxes", "boxes x", "boxes 1 1", "box 1", "Boxes 1", "1", "stop", "raise 0", "boxes -1"]:
            with self.subTest(head=head):
                self.assertEqual(no_text_at(head + "\nstop"), 0)
                self.assertEqual(no_text_at(head), 0)

    def test_the_first_wrong_line_is_told(self):
        self.assertEqual(no_text_at("boxes 1\nstop\nhalt\nraise\nstop\n"), 2)

    def test_ahead_of_no_program(self):
        self.assertEqual(no_text_at("boxes 0\nstop\nhalt"), 2)
        self.assertEqual(no_text_at("boxes 1\nraise 5\nhalt"), 2)
        self.assertEqual(no_text_at("boxes 1\ngo 77\nraise 0\n"), 3)
        self.assertEqual(no_text_at("boxes 1" + "\nstop" * 20 + "\nhalt"), 21)

    def test_long_texts(self):
        self.assertEqual(no_text_at("b" * 6000), 0)
        self.assertEqual(no_text_at("boxes 1" + "\nstop" * 1198 + "\n"), 1199)
        self.assertEqual(no_text_at("boxes 1\nraise " + "1" * 5900), 1)


class TestNoProgram(unittest.TestCase):
    def test_boxes(self):
        self.assertEqual(no_program("boxes 0\nstop"), ("boxes", -1))
        self.assertEqual(no_program("boxes 6\nstop"), ("boxes", -1))
        self.assertEqual(no_program("boxes 99"), ("boxes", -1))

    def test_rows(self):
        self.assertEqual(no_program("boxes 1"), ("rows", -1))
        self.assertEqual(no_program("boxes 1" + "\nstop" * 15), ("rows", -1))

    def test_box_goal_end(self):
        self.assertEqual(no_program("boxes 1\nraise 1\nstop"), ("box", 0))
        self.assertEqual(no_program("boxes 1\nstop\nif 99 99"), ("box", 1))
        self.assertEqual(no_program("boxes 1\nstop\nif 0 2"), ("goal", 1))
        self.assertEqual(no_program("boxes 1\ngo 99"), ("goal", 0))
        self.assertEqual(no_program("boxes 1\nstop\nlower 0"), ("end", 1))


class TestTextsNearby(unittest.TestCase):
    def look_at(self, text):
        at = wrong_line(text)
        try:
            program = read_program(text)
        except NoText as error:
            self.assertEqual(error.at, at, text)
        except NoProgram:
            self.assertIsNone(at, text)
        else:
            self.assertIsNone(at, text)
            self.assertEqual(show_program(program), text)

    def test_each_sign_changed(self):
        """A text with one sign other, more or fewer is read only where it is just the text of what is read."""
        text = show_program(Program(2, MOVE[:1] + [("go", 10)] + MOVE[1:] + [("stop",)] * 6))
        for k in range(len(text) + 1):
            self.look_at(text[:k] + text[k + 1:])
            for sign in " 019\nrsi-":
                self.look_at(text[:k] + sign + text[k:])
                self.look_at(text[:k] + sign + text[k + 1:])


if __name__ == "__main__":
    unittest.main()
