"""Terms: numbers, names, and sums, products and powers of terms."""

from runsums.errors import NoNumber
from runsums.reckoning import bounded, bounded_power, bounded_product

LETTERS = "abcdefghijklmnopqrstuvwxyz"
LETTERS_AND_FIGURES = "abcdefghijklmnopqrstuvwxyz0123456789"
MOST_SIGNS = 10


def is_name(text):
    """Whether the text is a name."""
    if not 1 <= len(text) <= MOST_SIGNS or text[0] not in LETTERS:
        return False
    return all([sign in LETTERS_AND_FIGURES for sign in text])


def sum_of(terms):
    """The sum of several terms, added from the left; of none the number 0."""
    if len(terms) == 0:
        return ("num", 0)
    total = terms[0]
    for term in terms[1:]:
        total = ("plus", total, term)
    return total


def terms_in(term):
    """The two terms of which a plus, times or power is made; none of a number or a name."""
    if term[0] in ("num", "name"):
        return ()
    return term[1:]


def parts(term):
    """How many terms there are in the term, itself counted, each as often as it stands."""
    count = 0
    waiting = [term]
    while waiting:
        part = waiting.pop()
        count += 1
        waiting.extend(terms_in(part))
    return count


def deep(term):
    """How many steps lead down to the deepest of the terms in the term."""
    deepest = 0
    waiting = [(term, 0)]
    while waiting:
        part, depth = waiting.pop()
        deepest = max(deepest, depth)
        waiting.extend([(inner, depth + 1) for inner in terms_in(part)])
    return deepest


def folded(term, lone_of, both_of):
    """What comes of the term: lone_of tells it of a number or a name, both_of of a word and its two terms'."""
    # A list of what is still to do, instead of calls within calls: terms may be so deep
    # that calls would run out. A part stands there opened once its terms are done.
    waiting = [(term, False)]
    found = []
    while waiting:
        part, opened = waiting.pop()
        if opened:
            second = found.pop()
            first = found.pop()
            found.append(both_of(part[0], first, second))
        elif len(terms_in(part)) == 0:
            found.append(lone_of(part))
        else:
            waiting.extend([(part, True), (part[2], False), (part[1], False)])
    return found[0]


def worth(term, answer):
    """The number that the term comes to by the answer."""
    return folded(term, lambda part: _lone_worth(part, answer), _joined)


def _lone_worth(term, answer):
    if term[0] == "num":
        return bounded(term[1])
    if term[1] not in answer:
        raise NoNumber(term[1])
    return bounded(answer[term[1]])


def _joined(word, first, second):
    if word == "plus":
        return bounded(first + second)
    if word == "times":
        return bounded_product(first, second)
    return bounded_power(first, second)
