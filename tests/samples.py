"""What several of the tests use: some programs, the numbers of runs, and a look at what a call is refused with."""

from runsums.naming import asked_boxes
from runsums.programs import Program

# Empties box 0 into box 1.
MOVE = [("if", 0, 4), ("lower", 0), ("raise", 1), ("go", 0), ("stop",)]

# Lowers box 0 three times, and is stuck where that can't be done.
THREE_DOWN = [("lower", 0), ("lower", 0), ("lower", 0), ("stop",)]

# Goes on for ever, and raises box 0.
UP = [("raise", 0), ("go", 0)]

# Twice as much as box 0 holds comes to box 1, by way of box 2; then box 3 is asked.
DOUBLE = [
    ("if", 0, 5), ("lower", 0), ("raise", 2), ("raise", 2), ("go", 0),
    ("if", 2, 9), ("lower", 2), ("raise", 1), ("go", 5),
    ("if", 3, 10), ("if", 3, 12), ("lower", 3), ("stop",)]

# Stops at one row where box 1 is empty, at another one where it isn't.
TWO_STOPS = [("if", 1, 3), ("lower", 1), ("stop",), ("raise", 0), ("raise", 0), ("stop",)]

# Five boxes and fourteen rows: an if to itself (passed where box 4 isn't empty), to the row behind,
# to rows far off, of one box several times, goes to the row behind and back.
FOURTEEN = [
    ("if", 4, 0), ("if", 1, 9), ("if", 3, 3), ("raise", 0), ("lower", 4), ("if", 1, 12), ("if", 4, 7),
    ("go", 8), ("lower", 1), ("go", 10), ("if", 1, 13), ("raise", 4), ("go", 0), ("stop",)]


def double():
    return Program(4, DOUBLE)


def two_stops():
    return Program(2, TWO_STOPS)


def fourteen():
    return Program(5, FOURTEEN)


def move():
    return Program(2, MOVE)


def three_down():
    return Program(1, THREE_DOWN)


def up():
    return Program(1, UP)


def by_chance(chance):
    """A program of some boxes and rows, drawn from a source of chance that a test seeds."""
    boxes, many = chance.randint(1, 5), chance.randint(1, 14)
    rows = [_row_by_chance(chance, boxes, many) for _ in range(many - 1)]
    return Program(boxes, [*rows, ("stop",) if chance.random() < 0.8 else ("go", chance.randrange(many))])


def _row_by_chance(chance, boxes, many):
    word = chance.choice(["raise", "raise", "lower", "lower", "if", "if", "if", "go", "stop"])
    numbers = {"raise": [boxes], "lower": [boxes], "if": [boxes, many], "go": [many], "stop": []}[word]
    return (word, *[chance.randrange(number) for number in numbers])


def laid_out(program, stands, c):
    """The answer as promise 17 tells it: figure by figure, each times its power of q."""
    q = 2 ** c
    h = q // 2
    places = range(len(stands))
    begin, end = stands[0][1], stands[-1][1]
    told = {}
    for j in range(program.boxes):
        told[f"x{j}"] = begin[j]
    for j in range(program.boxes):
        told[f"y{j}"] = end[j]
    told["s"] = len(stands) - 1
    told["c"] = c
    told["h"] = h
    told["d"] = h - 1 - sum(begin)
    told["q"] = q
    told["g"] = q - 1 - len(program)
    told["i"] = sum(q ** t for t in places)
    told["m"] = sum((h - 1) * q ** t for t in places)
    for j in range(program.boxes):
        told[f"r{j}"] = sum(stands[t][1][j] * q ** t for t in places)
    for k in range(len(program)):
        told[f"l{k}"] = sum(q ** t for t in places if stands[t][0] == k)
    for j in asked_boxes(program):
        told[f"e{j}"] = q * told["i"] - 2 * told[f"r{j}"]
    return told


def refusal(kind, call, *args, **more):
    """The error of just this class with which the call is refused."""
    try:
        told = call(*args, **more)
    except Exception as error:
        if type(error) is not kind:
            raise
        return error
    raise AssertionError(f"not refused, but told {told!r:.200}")
