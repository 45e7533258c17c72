"""The bits of numbers: as texts, and what one number has where another has none."""

from runsums.errors import NoText

BITS = "01"


def bits_of(number):
    """The bits of the number as a text, the greatest first."""
    return f"{number:b}"


def of_bits(text):
    """The number of which these are the bits, noughts ahead let."""
    if text == "":
        raise NoText(0)
    for at, sign in enumerate(text):
        if sign not in BITS:
            raise NoText(at)
    return int(text, 2)


def fits(one, other):
    """Whether the other number has a 1 in each place in which this one has one."""
    return stands_out(one, other) == 0


def stands_out(one, other):
    """The number of which the bits are those of one where the other has 0."""
    return one ^ (one & other)


def how_many(number):
    """How many bits of the number are 1."""
    return bits_of(number).count("1")
