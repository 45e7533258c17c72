"""The texts of numbers by their figures."""

FIGURES = "0123456789"

# Python's str writes some thousands of figures and no more, so greater numbers are written
# in pieces of so many figures.
PIECE = 4000


def is_numeral(text, most):
    """Whether the text is one to so many figures, without a nought ahead but 0 itself."""
    # isdigit takes figures of other scripts, too, so each sign is looked up here.
    if not 1 <= len(text) <= most or not all([sign in FIGURES for sign in text]):
        return False
    return text == "0" or text[0] != "0"


def numeral(number):
    """The figures of the number as a text."""
    # Each figure takes more than three bits, so this is surely one piece.
    if number.bit_length() <= 3 * PIECE:
        return str(number)
    beyond_piece = int("1" + "0" * PIECE)
    pieces = []
    rest = number
    while rest >= beyond_piece:
        rest, lowest = divmod(rest, beyond_piece)
        pieces.append(str(lowest).zfill(PIECE))
    pieces.append(str(rest))
    return "".join(reversed(pieces))
