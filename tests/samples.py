"""What several of the tests use: some programs, and a look at what a call is refused with."""

from runsums.programs import Program

# Empties box 0 into box 1.
MOVE = [("if", 0, 4), ("lower", 0), ("raise", 1), ("go", 0), ("stop",)]

# Lowers box 0 three times, and is stuck where that can't be done.
THREE_DOWN = [("lower", 0), ("lower", 0), ("lower", 0), ("stop",)]

# Goes on for ever, and raises box 0.
UP = [("raise", 0), ("go", 0)]


def move():
    return Program(2, MOVE)


def three_down():
    return Program(1, THREE_DOWN)


def up():
    return Program(1, UP)


def refusal(kind, call, *args, **more):
    """The error of just this class with which the call is refused."""
    try:
        told = call(*args, **more)
    except Exception as error:
        if type(error) is not kind:
            raise
        return error
    raise AssertionError(f"not refused, but told {told!r:.200}")
