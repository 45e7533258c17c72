"""Terms and sayings for the tests: made of their sides, deep ones, full ones and ones made by chance."""

from runsums.sayings import Saying


def num(number):
    return ("num", number)


def name(text):
    return ("name", text)


def plus(one, other):
    return ("plus", one, other)


def times(one, other):
    return ("times", one, other)


def power(one, other):
    return ("power", one, other)


def same(one, other):
    return Saying("same", one, other)


def under(one, other):
    return Saying("under", one, other)


def leaning(make, many, left, lone=("num", 1)):
    """A term so many steps deep, on the left side or on the right one."""
    term = lone
    for _ in range(many):
        term = make(term, num(1)) if left else make(num(1), term)
    return term


def full(depth):
    """A term of which all lone ones are so deep."""
    return num(1) if depth == 0 else plus(full(depth - 1), full(depth - 1))


def by_chance(chance, depth):
    """A term of at most this depth."""
    if depth == 0 or chance.random() < 0.3:
        lone = [num(0), num(7), num(10), num(10 ** 399 + 7), name("u"), name("under"), name("x0"), name("abcdefghij")]
        return chance.choice(lone)
    make = chance.choice([plus, times, power])
    return make(by_chance(chance, depth - 1), by_chance(chance, depth - 1))
