"""The figures of powers, in a base so great that each is a choosing number."""

from runsums.choosing import choose


def figure_of_power(n, k):
    """Figure k, in base u, of (u plus 1) to the power of n, with u 2 to the power of (n plus 1)."""
    # The sum of all choosing numbers of n is 2 to the power of n, less than u: so none of them
    # runs over into the next figure.
    return choose(n, k)
