"""Terms and sayings, made of their sides."""

from runsums.sayings import Saying


def num(number):
    """The term of a number."""
    return ("num", number)


def named(text):
    """The term of a name."""
    return ("name", text)


def plus(left, right):
    """The term of both together."""
    return ("plus", left, right)


def times(left, right):
    """The term of the one as often as the other."""
    return ("times", left, right)


def power(left, right):
    """The term of the one to the power of the other."""
    return ("power", left, right)


def same(left, right):
    """The saying that both come to the same."""
    return Saying("same", left, right)


def under(left, right):
    """The saying that the left one fits under the right one."""
    return Saying("under", left, right)
