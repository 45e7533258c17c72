"""Sayings of the word same made one: that all of them hold, or that one of two does."""

from runsums.errors import NoOne
from runsums.making import num, plus, same, times
from runsums.terms import sum_of


def made_one(sayings):
    """The saying that holds just where all of these do."""
    _check_words(sayings)
    # The squares of the differences of all sides, added up, come to 0 just where all hold.
    # No number is less than 0, so what is to be taken off stands on the other side.
    squares = [plus(times(saying.left, saying.left), times(saying.right, saying.right)) for saying in sayings]
    taken_off = [times(num(2), times(saying.left, saying.right)) for saying in sayings]
    return same(sum_of(squares), sum_of(taken_off))


def either(one, other):
    """The saying that holds just where one of these does."""
    _check_words([one, other])
    # The product of both differences comes to 0 just where one of them does.
    return same(
        plus(times(one.left, other.left), times(one.right, other.right)),
        plus(times(one.left, other.right), times(one.right, other.left)),
    )


def _check_words(sayings):
    for at, saying in enumerate(sayings):
        if saying.word != "same":
            raise NoOne(at)
