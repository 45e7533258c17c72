"""Answers lifted again, to the names of the sayings that were led down."""

from runsums.sayings import names_in_all


def lifted(sayings, answer):
    """The answer with just the names that stand in the sayings."""
    names = names_in_all(sayings)
    return {name: number for name, number in answer.items() if name in names}
