"""Products and powers of bounded numbers: what is too great is refused ahead of reckoning it."""

from runsums.bits import bits_of
from runsums.errors import TooGreat

MOST_BITS = 1000000

# So many of its greatest bits are kept of a number where only its size matters. What such
# bits leave out is so little that it hardly ever matters whether a bound is passed.
HEAD_BITS = 128


def bounded(number):
    """The number, where it doesn't have too many bits."""
    if number.bit_length() > MOST_BITS:
        raise TooGreat(MOST_BITS)
    return number


def bounded_product(first, second):
    """The product, where it doesn't have too many bits."""
    # A product has at most as many bits as both together, so mostly nothing need be looked at.
    if first.bit_length() + second.bit_length() > MOST_BITS:
        _check_bits(_product_of_heads(_head(first), _head(second)))
    return bounded(first * second)


def bounded_power(base, exponent):
    """The one to the power of the other, where it doesn't have too many bits."""
    if exponent == 0:
        return 1
    if base < 2:
        return base
    _check_power(base, exponent)
    # From the exponent's greatest bit on no number on the way is greater than the power
    # itself, so where it still hangs on the last bits, the first one that is too great
    # tells that the power is.
    power = 1
    for bit in bits_of(exponent):
        power = bounded_product(power, power)
        if bit == "1":
            power = bounded_product(power, base)
    return power


def _check_power(base, exponent):
    """Refuses the power, of a base from 2 on, where it surely has too many bits."""
    # Even the least base, 2, comes to one bit more than the exponent tells.
    if exponent >= MOST_BITS:
        raise TooGreat(MOST_BITS)
    head = _head(base)
    least = _head(1)
    for bit in bits_of(exponent):
        least = _product_of_heads(least, least)
        if bit == "1":
            least = _product_of_heads(least, head)
    _check_bits(least)


def _check_bits(head):
    bits, places = head
    if bits.bit_length() + places > MOST_BITS:
        raise TooGreat(MOST_BITS)


# A head is (bits, places): a number's greatest bits, and how many places stand behind them.
# With noughts in these places it is never more than the number, and has as many bits.


def _head(number):
    return _cut(number, 0)


def _product_of_heads(one, other):
    """The head of a product of both, which is never more than that of what they stand for."""
    return _cut(one[0] * other[0], one[1] + other[1])


def _cut(bits, places):
    behind = max(0, bits.bit_length() - HEAD_BITS)
    return bits >> behind, places + behind
