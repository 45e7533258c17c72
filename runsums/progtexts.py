"""The texts of programs: the line of boxes, then one line for each row."""

from runsums.errors import NoText
from runsums.numerals import is_numeral
from runsums.programs import FORMS, Program

MOST_FIGURES = 2


def show_program(program):
    """The one text of a program."""
    return str(program)


def read_program(text):
    """The program of which this is the text."""
    lines = [line.split(" ") for line in text.split("\n")]
    for at, words in enumerate(lines):
        if not _is_line(words, at):
            raise NoText(at)
    rows = [_row_of(words) for words in lines[1:]]
    return Program(int(lines[0][1]), rows)


def _is_line(words, at):
    due = _numbers_due(words[0], at)
    if due is None or len(words) != due + 1:
        return False
    return all([is_numeral(word, MOST_FIGURES) for word in words[1:]])


def _numbers_due(word, at):
    """How many numbers stand behind this first word of line at, None where no line begins so."""
    if at == 0:
        return 1 if word == "boxes" else None
    return len(FORMS[word]) if word in FORMS else None


def _row_of(words):
    return (words[0], *[int(word) for word in words[1:]])
