"""The figures of numbers in any base, from the least one on."""


def figure(number, base, k):
    """Figure k of the number, 0 behind the last one."""
    rest = number
    for _ in range(k):
        # Behind the last figure all are 0, however far it is to the one that is asked for.
        if rest == 0:
            return 0
        rest = rest // base
    return rest % base


def figures(number, base, many):
    """The first so many figures of the number."""
    told = []
    rest = number
    for _ in range(many):
        rest, lowest = divmod(rest, base)
        told.append(lowest)
    return told


def of_figures(some, base):
    """The number that these come to as figures, each however great."""
    number = 0
    for one in reversed(some):
        number = number * base + one
    return number


def ones(base, many):
    """The number with so many figures, each 1."""
    return of_figures([1] * many, base)
