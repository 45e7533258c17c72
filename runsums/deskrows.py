"""The rows that a desk is told: a word, and what stands behind it."""

from runsums.errors import NoRow
from runsums.numerals import is_numeral
from runsums.terms import is_name

# What stands behind each word, in its order; contents are one or more.
FORMS = {
    "keep": ("name", "text"),
    "show": ("name",),
    "run": ("name", "contents"),
    "sayings": ("name",),
    "saying": ("name", "place"),
    "answer": ("name", "contents"),
    "more": ("name", "more", "contents"),
    "number": ("name",),
    "put": ("name", "great"),
    "look": (),
    "off": (),
    "back": (),
}

# Of the numbers but great ones: the greatest that is let.
MOST = {"contents": 500, "place": 999, "more": 8}
MOST_FIGURES = 3
MOST_FIGURES_OF_GREAT = 400


def read_row(row):
    """The word of the row, and a list of the names, numbers and the text behind it."""
    words = _words_of(row)
    kinds = _kinds_due(words)
    if len(words) != len(kinds) + 1:
        raise NoRow()
    return words[0], [_read(word, kind) for word, kind in zip(words[1:], kinds)]


def _words_of(row):
    # A text may have blanks anywhere, so behind the name of keep nothing is parted.
    if row.startswith("keep "):
        return row.split(" ", 2)
    return row.split(" ")


def _kinds_due(words):
    """What is due behind the first one of these words; contents as often as words are left."""
    if words[0] not in FORMS:
        raise NoRow()
    kinds = FORMS[words[0]]
    if "contents" in kinds:
        return kinds + ("contents",) * (len(words) - 1 - len(kinds))
    return kinds


def _read(word, kind):
    if not _is_of(word, kind):
        raise NoRow()
    return word if kind in ("name", "text") else int(word)


def _is_of(word, kind):
    if kind == "text":
        return True
    if kind == "name":
        return is_name(word)
    if kind == "great":
        return is_numeral(word, MOST_FIGURES_OF_GREAT)
    return is_numeral(word, MOST_FIGURES) and int(word) <= MOST[kind]
