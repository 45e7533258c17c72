"""Answers: the numbers of a run that stopped, which keep all sayings of its program."""

from runsums.errors import NoAnswer
from runsums.figures import of_figures, ones
from runsums.naming import asked_boxes, names_of
from runsums.runs import ran


def least_c(program, begin, most=200):
    """The least c that is great enough for the run from these contents."""
    return _least_for(program, _stands_of(program, begin, most))


def answer_of(program, begin, more=0, most=200):
    """The answer of the run from these contents, by the least c and so much more."""
    stands = _stands_of(program, begin, most)
    c = _least_for(program, stands) + more
    numbers = _numbers_of(program, stands, c)
    return {name: numbers[name] for name in names_of(program)}


def _stands_of(program, begin, most):
    word, stands = ran(program, begin, most)
    if word != "stopped":
        raise NoAnswer(word)
    return stands


def _least_for(program, stands):
    """The least c by which h is greater than all contents and their sum at the begin, q than the rows."""
    greatest = max([max(contents) for _, contents in stands])
    below_h = max(greatest, sum(stands[0][1]))
    return max(below_h.bit_length() + 1, len(program.rows).bit_length())


def _numbers_of(program, stands, c):
    """All numbers by their names, in no order of note."""
    q = 1 << c
    h = q // 2
    i = ones(q, len(stands))
    begin, end = stands[0][1], stands[-1][1]
    numbers = {
        "s": len(stands) - 1,
        "c": c,
        "h": h,
        "d": h - sum(begin) - 1,
        "q": q,
        "g": q - len(program.rows) - 1,
        "i": i,
        "m": (h - 1) * i,
    }
    for j in range(program.boxes):
        numbers[f"x{j}"] = begin[j]
        numbers[f"y{j}"] = end[j]
        numbers[f"r{j}"] = of_figures([contents[j] for _, contents in stands], q)
    for k in range(len(program.rows)):
        numbers[f"l{k}"] = of_figures([1 if row == k else 0 for row, _ in stands], q)
    for j in asked_boxes(program):
        numbers[f"e{j}"] = q * i - 2 * numbers[f"r{j}"]
    return numbers
