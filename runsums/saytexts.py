"""The texts of sayings: written, and read sign by sign."""

from runsums.errors import NoText
from runsums.numerals import FIGURES
from runsums.sayings import Saying
from runsums.terms import LETTERS, LETTERS_AND_FIGURES, MOST_SIGNS
from runsums.termtexts import text_of

MOST_FIGURES = 400
WORDS = {"+": "plus", "*": "times", "^": "power"}


def term_text(term):
    """The one text of a term."""
    return text_of(term)


def show_saying(saying):
    """The one text of a saying."""
    return str(saying)


def read_saying(text):
    """The saying of which this is the text."""
    left, at = _read_term(text, 0)
    word, at = _read_mark(text, at)
    right, at = _read_term(text, at)
    if at < len(text):
        raise NoText(at)
    return Saying(word, left, right)


# Each of the functions below reads from a place on, and tells what it read with the place
# behind it. Each looks at one sign after the other, so that the first one that is wrong is
# the one at which it refuses.


def _read_term(text, start):
    # For each bracket that is open: None while its first term is read, then the word of its
    # sign and that term.
    opened = []
    at = start
    while True:
        while _sign_at(text, at) == "(":
            opened.append(None)
            at += 1
        term, at = _read_lone(text, at)
        while len(opened) > 0 and opened[-1] is not None:
            word, first = opened.pop()
            term = (word, first, term)
            at = _behind(text, at, ")")
        if len(opened) == 0:
            return term, at
        word, at = _read_sign(text, at)
        opened[-1] = (word, term)


def _read_lone(text, at):
    sign = _sign_at(text, at)
    if sign == "0":
        return ("num", 0), at + 1
    if sign != "" and sign in FIGURES:
        end = _end_of(text, at, FIGURES, MOST_FIGURES)
        return ("num", int(text[at:end])), end
    if sign != "" and sign in LETTERS:
        end = _end_of(text, at, LETTERS_AND_FIGURES, MOST_SIGNS)
        return ("name", text[at:end]), end
    raise NoText(at)


def _read_sign(text, start):
    at = _behind(text, start, " ")
    sign = _sign_at(text, at)
    if sign not in WORDS:
        raise NoText(at)
    return WORDS[sign], _behind(text, at + 1, " ")


def _read_mark(text, start):
    at = _behind(text, start, " ")
    if _sign_at(text, at) == "=":
        return "same", _behind(text, at, "= ")
    return "under", _behind(text, at, "under ")


def _sign_at(text, at):
    return text[at] if at < len(text) else ""


def _behind(text, start, due):
    """The place behind the signs that are due from this place on."""
    at = start
    for sign in due:
        if _sign_at(text, at) != sign:
            raise NoText(at)
        at += 1
    return at


def _end_of(text, start, signs, most):
    """The place behind the signs of this kind, of which at most so many are read."""
    end = start
    while end < len(text) and end - start < most and text[end] in signs:
        end += 1
    return end
