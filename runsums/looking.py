"""Answers looked at: whether sayings hold of them, and how far off they are."""

from runsums.bits import fits, stands_out
from runsums.terms import worth


def holds(saying, answer):
    """Whether the saying holds of the answer."""
    left, right = _sides(saying, answer)
    return left == right if saying.word == "same" else fits(left, right)


def first_wrong(sayings, answer):
    """The number of the first saying that doesn't hold of the answer, None where all hold."""
    for at, saying in enumerate(sayings):
        if not holds(saying, answer):
            return at
    return None


def off(saying, answer):
    """How far off the saying is: a square, 0 just where it holds."""
    left, right = _sides(saying, answer)
    difference = left - right if saying.word == "same" else stands_out(left, right)
    return difference * difference


def far_off(sayings, answer):
    """How far off all the sayings are together."""
    return sum([off(saying, answer) for saying in sayings])


def _sides(saying, answer):
    left = worth(saying.left, answer)
    return left, worth(saying.right, answer)
