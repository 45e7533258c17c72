"""What a program says: the sayings that hold of just those numbers which are a run of it."""

from runsums.making import named, num, plus, power, same, times, under
from runsums.naming import asked_boxes, is_parting, numbered
from runsums.programs import goal_of, moves_of
from runsums.terms import sum_of

S = ("name", "s")
C = ("name", "c")
H = ("name", "h")
D = ("name", "d")
Q = ("name", "q")
G = ("name", "g")
I = ("name", "i")
M = ("name", "m")


def sayings_of(program):
    """The sayings of a program, in their order."""
    boxes = range(program.boxes)
    rows = range(len(program.rows))
    return (
        _of_base(program)
        + [under(_box(j), M) for j in boxes]
        + [under(_row(k), I) for k in rows]
        + _of_begin_and_end(program)
        + [same(plus(_asked(j), times(num(2), _box(j))), times(Q, I)) for j in asked_boxes(program)]
        + [saying for k in rows for saying in _of_row(program, k)]
        + [_of_box(program, j) for j in boxes]
    )


def _of_base(program):
    begin = sum_of([named(x) for x in numbered("x", program.boxes)])
    return [
        same(H, plus(plus(begin, num(1)), D)),
        same(Q, times(num(2), H)),
        same(Q, power(num(2), C)),
        same(Q, plus(num(len(program.rows) + 1), G)),
        same(plus(times(Q, I), num(1)), plus(_behind_all(), I)),
        same(plus(M, I), times(H, I)),
    ]


def _of_begin_and_end(program):
    stops = [k for k, row in enumerate(program.rows) if row[0] == "stop"]
    return [
        same(_sum_of_rows(list(range(len(program.rows)))), I),
        under(num(1), _row(0)),
        same(_sum_of_rows(stops), power(num(2), times(C, S))),
    ]


def _of_row(program, k):
    """Where the run goes on behind row k, said of the figures one place further up."""
    if program.rows[k][0] == "stop":
        return []
    moved = times(Q, _row(k))
    if is_parting(program, k):
        box = program.rows[k][1]
        return [
            under(moved, plus(_row(goal_of(program, k)), _row(k + 1))),
            under(moved, plus(_row(k + 1), _asked(box))),
        ]
    # An if that isn't parting has its next row as its goal, so the goal does for it, too.
    goal = goal_of(program, k)
    return [under(moved, _row(k + 1 if goal is None else goal))]


def _of_box(program, j):
    """What box j holds from stand to stand: what it held, and what the rows made of it."""
    raised = _sum_of_rows(moves_of(program, j, "raise"))
    lowered = _sum_of_rows(moves_of(program, j, "lower"))
    return same(
        plus(times(Q, plus(_box(j), raised)), named(f"x{j}")),
        plus(plus(_box(j), times(Q, lowered)), times(_behind_all(), named(f"y{j}"))),
    )


def _behind_all():
    """The base to the power of the number of stands."""
    return power(num(2), times(C, plus(S, num(1))))


def _sum_of_rows(rows):
    return sum_of([_row(k) for k in rows])


def _box(j):
    return named(f"r{j}")


def _row(k):
    return named(f"l{k}")


def _asked(j):
    return named(f"e{j}")
