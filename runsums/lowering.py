"""Sayings led down to sums, products and powers alone, and answers along with them."""

from runsums.errors import TooGreat, Wrong
from runsums.looking import first_wrong
from runsums.making import named, num, plus, power, same, times
from runsums.powers import figure_of_power
from runsums.reckoning import bounded_power
from runsums.terms import worth

MOST_RIGHT = 600
NEW_LETTERS = "abcdef"


def lowered(sayings):
    """The sayings led down: each under gives way to four of the word same."""
    told = []
    for t, saying in enumerate(sayings):
        told.extend([saying] if saying.word == "same" else _led_down(saying, t))
    return told


def lowered_answer(sayings, answer):
    """The answer with the new numbers of each under put behind."""
    at = first_wrong(sayings, answer)
    if at is not None:
        raise Wrong(at)
    told = dict(answer)
    for t, left, right in _worths_of_unders(sayings, answer):
        for name, number in zip(_new_names(t), _new_numbers(left, right)):
            told[name] = number
    return told


def _led_down(saying, t):
    left, right = saying.left, saying.right
    a, b, c, d, e, f = [named(text) for text in _new_names(t)]
    twice = times(num(2), c)
    behind = times(b, power(a, plus(left, num(1))))
    odd = times(plus(twice, num(1)), power(a, left))
    return [
        same(a, power(num(2), plus(right, num(1)))),
        same(power(plus(a, num(1)), right), plus(plus(behind, odd), d)),
        same(plus(plus(d, e), num(1)), power(a, left)),
        same(plus(plus(twice, num(2)), f), a),
    ]


def _new_names(t):
    """The new names of the under that is number t of its list."""
    return [f"k{t}{letter}" for letter in NEW_LETTERS]


def _worths_of_unders(sayings, answer):
    """For each under its number, and what both its sides come to, where none comes to too much."""
    told = []
    for t, saying in enumerate(sayings):
        if saying.word == "under":
            right = worth(saying.right, answer)
            if right > MOST_RIGHT:
                raise TooGreat(MOST_RIGHT)
            told.append((t, worth(saying.left, answer), right))
    return told


def _new_numbers(left, right):
    """The new numbers, a to f, of an under that holds of what its sides come to."""
    # By base a, a power of two, figures are just so many bits, and are parted by shifts.
    bits = right + 1
    a = 1 << bits
    whole = bounded_power(a + 1, right)
    ahead = 1 << (bits * left)
    b = whole >> (bits * (left + 1))
    c = figure_of_power(right, left) // 2
    d = whole & (ahead - 1)
    return [a, b, c, d, ahead - d - 1, a - 2 * c - 2]
