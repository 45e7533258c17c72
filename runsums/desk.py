"""The desk: keeps programs by names, and an answer that is looked at, changed and read back."""

from runsums.answers import answer_of
from runsums.deskrows import read_row
from runsums.errors import NoHeld, NoNumber, NoRow, Unknown
from runsums.leading import sayings_of
from runsums.looking import far_off, first_wrong
from runsums.numerals import numeral
from runsums.progtexts import read_program, show_program
from runsums.reading import run_of
from runsums.runs import ran
from runsums.saytexts import show_saying

# The functions below tell what the desk answers to a row about a program; told is what stands
# behind the name.


def _show(program, told):
    return show_program(program).replace("\n", "/")


def _run(program, told):
    word, stands = ran(program, told)
    text = f"{word} in {len(stands) - 1}"
    if word != "stopped":
        return text
    return " ".join([text, "with"] + _texts(stands[-1][1]))


def _sayings(program, told):
    return str(len(sayings_of(program)))


def _saying(program, told):
    sayings = sayings_of(program)
    if told[0] >= len(sayings):
        raise NoRow()
    return show_saying(sayings[told[0]])


OF_PROGRAMS = {"show": _show, "run": _run, "sayings": _sayings, "saying": _saying}

# The functions below tell what the desk answers to a row about the answer that it has, and
# the program of this answer; told is what stands behind the word.


def _number(program, answer, told):
    return numeral(_number_for(answer, told[0]))


def _put(program, answer, told):
    _number_for(answer, told[0])
    answer[told[0]] = told[1]
    return "ok"


def _look(program, answer, told):
    at = first_wrong(sayings_of(program), answer)
    return "holds" if at is None else f"fails {at}"


def _off(program, answer, told):
    return str(far_off(sayings_of(program), answer).bit_length())


def _back(program, answer, told):
    return " ".join([_stand_text(stand) for stand in run_of(program, answer)])


OF_ANSWERS = {"number": _number, "put": _put, "look": _look, "off": _off, "back": _back}


class Desk:
    """Programs by their names, and perhaps an answer with the program that it was written for."""

    def __init__(self):
        self.programs = {}
        self.held = None

    def say(self, row):
        """What the desk answers to the row."""
        word, told = read_row(row)
        if word in OF_ANSWERS:
            return self._of_answer(word, told)
        if word == "keep":
            return self._keep(told[0], told[1])
        program = self._program_of(told[0])
        if word == "answer":
            return self._hold(program, told[1:], 0)
        if word == "more":
            return self._hold(program, told[2:], told[1])
        tell = OF_PROGRAMS[word]
        return tell(program, told[1:])

    def _keep(self, name, text):
        program = read_program(text.replace("/", "\n"))
        self.programs[name] = program
        return f"{len(program)} rows {program.boxes} boxes"

    def _program_of(self, name):
        if name not in self.programs:
            raise Unknown(name)
        return self.programs[name]

    def _hold(self, program, begin, more):
        answer = answer_of(program, begin, more)
        self.held = (program, answer)
        return f"{answer['s']} steps"

    def _of_answer(self, word, told):
        if self.held is None:
            raise NoHeld()
        program, answer = self.held
        tell = OF_ANSWERS[word]
        return tell(program, answer, told)


def _number_for(answer, name):
    if name not in answer:
        raise NoNumber(name)
    return answer[name]


def _stand_text(stand):
    row, contents = stand
    places = ",".join(_texts(contents))
    return f"{row}:{places}"


def _texts(numbers):
    return [str(number) for number in numbers]
