"""The names of the numbers that tell a whole run of a program."""

from runsums.programs import goal_of

# The names that each program has just once.
LONE_NAMES = ("s", "c", "h", "d", "q", "g", "i", "m")


def names_of(program):
    """The names of a program, in their order."""
    boxes = program.boxes
    return (
        numbered("x", boxes)
        + numbered("y", boxes)
        + list(LONE_NAMES)
        + numbered("r", boxes)
        + numbered("l", len(program.rows))
        + [f"e{j}" for j in asked_boxes(program)]
    )


def asked_boxes(program):
    """The boxes, rising, that an if asks whose goal isn't its next row."""
    return sorted({row[1] for k, row in enumerate(program.rows) if is_parting(program, k)})


def is_parting(program, k):
    """Whether row k is an if behind which the run may go on at either of two rows."""
    return program.rows[k][0] == "if" and goal_of(program, k) != k + 1


def numbered(letter, many):
    """So many names of one letter, each with its number."""
    return [f"{letter}{k}" for k in range(many)]
