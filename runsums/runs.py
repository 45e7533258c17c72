"""Runs: what a program does to its boxes, stand by stand."""

from runsums.errors import NoBegin


def ran(program, begin, most=200):
    """How the run from these contents ends within so many steps, and all its stands."""
    if len(begin) != program.boxes:
        raise NoBegin(program.boxes)
    stand = (0, tuple(begin))
    stands = [stand]
    following = step_from(program, stand)
    while following is not None and len(stands) <= most:
        stand = following
        stands.append(stand)
        following = step_from(program, stand)
    return _word_at(program, stand, following), stands


def step_from(program, stand):
    """The stand behind this one, None where the run stops or is stuck."""
    k, contents = stand
    row = program.rows[k]
    if row[0] == "stop":
        return None
    if row[0] == "go":
        return row[1], contents
    box = row[1]
    if row[0] == "if":
        goal = row[2] if contents[box] == 0 else k + 1
        return goal, contents
    if row[0] == "raise":
        return k + 1, _moved(contents, box, 1)
    if contents[box] == 0:
        return None
    return k + 1, _moved(contents, box, -1)


def _moved(contents, box, by):
    return tuple([held + by if j == box else held for j, held in enumerate(contents)])


def _word_at(program, stand, following):
    if following is not None:
        return "going"
    k = stand[0]
    return "stopped" if program.rows[k][0] == "stop" else "stuck"
