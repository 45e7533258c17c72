"""Choosing numbers: how many ways there are to choose, and how often what comes of it can be halved."""

from math import comb

from runsums.bits import fits, how_many


def choose(n, k):
    """How many ways there are to choose k things of n."""
    return comb(n, k)


def halvings(number):
    """How often the number, from 1 on, can be halved."""
    # A number and its negative have just the lowest 1 of their bits in common.
    return (number & -number).bit_length() - 1


def carries(one, other):
    """How many carries there are when both are added by bits."""
    # Each carry makes a single 1 of two that stand at one place, so just so many bits get lost.
    return how_many(one) + how_many(other) - how_many(one + other)


def is_odd(n, k):
    """Whether the choosing number of n and k is odd."""
    return fits(k, n)
