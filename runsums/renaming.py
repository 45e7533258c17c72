"""Sayings renamed: names in them give way to others."""

from runsums.making import named
from runsums.sayings import Saying
from runsums.terms import folded


def renamed(saying, names):
    """The saying in which each name that the dict has gives way to what is told there."""
    return Saying(saying.word, _renamed_term(saying.left, names), _renamed_term(saying.right, names))


def _renamed_term(term, names):
    return folded(term, lambda part: _renamed_lone(part, names), _term_of)


def _renamed_lone(term, names):
    if term[0] == "name" and term[1] in names:
        return named(names[term[1]])
    return term


def _term_of(word, first, second):
    return (word, first, second)
