"""Programs: rows that raise and lower a few boxes and ask whether they are empty."""

from runsums.errors import NoProgram

MOST_BOXES = 5
MOST_ROWS = 14

# What the numbers behind each word of a row mean; these are also the words by which
# a number that is out of bounds is refused.
FORMS = {
    "raise": ("box",),
    "lower": ("box",),
    "if": ("box", "goal"),
    "go": ("goal",),
    "stop": (),
}


class Program:
    """So many boxes, and a tuple of rows."""

    def __init__(self, boxes, rows):
        _check(boxes, rows)
        self.boxes = boxes
        self.rows = tuple(rows)

    def __eq__(self, other):
        return isinstance(other, Program) and self.boxes == other.boxes and self.rows == other.rows

    def __len__(self):
        return len(self.rows)

    def __str__(self):
        return "\n".join([f"boxes {self.boxes}"] + [_row_text(row) for row in self.rows])

    def __repr__(self):
        return f"Program({self.boxes}, {len(self.rows)})"


def goal_of(program, k):
    """The row at which row k may go on besides the next one, None where it has no goal."""
    row = program.rows[k]
    if row[0] in ("if", "go"):
        return row[-1]
    return None


def moves_of(program, j, word):
    """The numbers of the rows that do this word, raise or lower, to box j."""
    return [k for k, row in enumerate(program.rows) if row == (word, j)]


def _check(boxes, rows):
    if not 1 <= boxes <= MOST_BOXES:
        raise NoProgram("boxes", -1)
    if not 1 <= len(rows) <= MOST_ROWS:
        raise NoProgram("rows", -1)
    limits = {"box": boxes, "goal": len(rows)}
    for at, row in enumerate(rows):
        _check_row(row, at, limits)
    if rows[-1][0] not in ("stop", "go"):
        raise NoProgram("end", len(rows) - 1)


def _check_row(row, at, limits):
    if not _is_row(row):
        raise NoProgram("row", at)
    for meaning, number in zip(FORMS[row[0]], row[1:]):
        if not 0 <= number < limits[meaning]:
            raise NoProgram(meaning, at)


def _is_row(row):
    # A list as a row could be changed behind the call, so only a tuple is one.
    if not isinstance(row, tuple) or len(row) == 0 or row[0] not in FORMS:
        return False
    numbers = row[1:]
    return len(numbers) == len(FORMS[row[0]]) and all([_is_whole(number) for number in numbers])


def _is_whole(thing):
    return isinstance(thing, int) and not isinstance(thing, bool)


def _row_text(row):
    return " ".join([str(thing) for thing in row])
