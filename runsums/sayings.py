"""Sayings: that two terms come to the same, or that one fits under the other."""

from runsums.errors import NoWord
from runsums.terms import terms_in
from runsums.termtexts import text_of

# The words of sayings, each with what stands for it in a text.
MARKS = {"same": "=", "under": "under"}


class Saying:
    """A word, same or under, and the terms on both sides."""

    def __init__(self, word, left, right):
        if word not in MARKS:
            raise NoWord(word)
        self.word = word
        self.left = left
        self.right = right

    def __eq__(self, other):
        if not isinstance(other, Saying) or self.word != other.word:
            return False
        return _is_same_term(self.left, other.left) and _is_same_term(self.right, other.right)

    def __str__(self):
        return f"{text_of(self.left)} {MARKS[self.word]} {text_of(self.right)}"

    def __repr__(self):
        return f"Saying({str(self)})"


def names_in(saying):
    """The names that stand in the saying, sorted, each once."""
    return names_in_all([saying])


def names_in_all(sayings):
    """The names that stand in any of these sayings, sorted, each once."""
    seen = set()
    waiting = [saying.left for saying in sayings] + [saying.right for saying in sayings]
    while waiting:
        part = waiting.pop()
        if part[0] == "name":
            seen.add(part[1])
        waiting.extend(terms_in(part))
    return sorted(seen)


def _is_same_term(one, other):
    # Python's own comparing of tuples goes down by calls within calls, and terms are so deep
    # that these would run out.
    waiting = [(one, other)]
    while waiting:
        first, second = waiting.pop()
        if first[0] != second[0]:
            return False
        if len(terms_in(first)) > 0:
            waiting.extend([(first[2], second[2]), (first[1], second[1])])
        elif first[1] != second[1]:
            return False
    return True
