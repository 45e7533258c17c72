"""The refusals: each keeps what it is told in fields of the names that the document gives."""


class NoText(ValueError):
    """A text of no such form; at is the number of the first line or sign that is wrong."""

    def __init__(self, at):
        self.at = at


class NoProgram(ValueError):
    """Boxes and rows that make no program; word tells what is wrong, at in which row."""

    def __init__(self, word, at):
        self.word = word
        self.at = at


class NoWord(ValueError):
    """A saying of another word than same and under."""

    def __init__(self, word):
        self.word = word


class Wrong(ValueError):
    """Sayings that don't all hold; at is the number of the first one that doesn't."""

    def __init__(self, at):
        self.at = at


class NoOne(ValueError):
    """Sayings that can't be made one; at is the number of the first under among them."""

    def __init__(self, at):
        self.at = at


class NoRow(ValueError):
    """A row for the desk that is none."""


class NoNumber(KeyError):
    """An answer without a number for this name."""

    def __init__(self, name):
        self.name = name


class Unknown(KeyError):
    """A name by which the desk keeps nothing."""

    def __init__(self, name):
        self.name = name


class NoBegin(IndexError):
    """Contents at the begin of another number than there are boxes; many is that of the boxes."""

    def __init__(self, many):
        self.many = many


class NoAnswer(LookupError):
    """A run that doesn't stop in time; word tells how it ended."""

    def __init__(self, word):
        self.word = word


class NoHeld(LookupError):
    """A desk that has no answer yet."""


class TooGreat(OverflowError):
    """A number beyond the bound that most tells."""

    def __init__(self, most):
        self.most = most
