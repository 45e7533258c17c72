"""Runs read back from the answers that tell them."""

from runsums.errors import Wrong
from runsums.figures import figures
from runsums.leading import sayings_of
from runsums.looking import first_wrong


def run_of(program, answer):
    """All stands of the run that the answer tells."""
    at = first_wrong(sayings_of(program), answer)
    if at is not None:
        raise Wrong(at)
    rows = _figures_of(answer, "l", len(program.rows))
    boxes = _figures_of(answer, "r", program.boxes)
    return [_stand_at(rows, boxes, t) for t in range(answer["s"] + 1)]


def _figures_of(answer, letter, many):
    """For each number of this letter its figures, one for each stand."""
    return [figures(answer[f"{letter}{k}"], answer["q"], answer["s"] + 1) for k in range(many)]


def _stand_at(rows, boxes, t):
    row = [some[t] for some in rows].index(1)
    return row, tuple([some[t] for some in boxes])
