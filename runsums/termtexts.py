"""The texts of terms, as the texts of sayings have them on either side."""

from runsums.numerals import numeral

SIGNS = {"plus": "+", "times": "*", "power": "^"}


def text_of(term):
    """The one text of a term."""
    # A list of what is still to write, instead of calls within calls, which would run out
    # where terms are deep.
    pieces = []
    waiting = [term]
    while waiting:
        part = waiting.pop()
        if isinstance(part, str):
            pieces.append(part)
        elif part[0] in SIGNS:
            waiting.extend([")", part[2], f" {SIGNS[part[0]]} ", part[1], "("])
        else:
            pieces.append(part[1] if part[0] == "name" else numeral(part[1]))
    return "".join(pieces)
