"""Lines, their keys and their texts."""

from neverunsaid.basics import is_count, is_numeral, is_signs
from neverunsaid.errors import InvalidLine, InvalidText

MOST_LETTERS = 8
MOST_SIGNS = 40


def is_cell(value):
    """Whether any value is a cell: a string of 1 to 8 letters from a to z."""
    if not isinstance(value, str) or len(value) > MOST_LETTERS:
        return False
    return value.isascii() and value.isalpha() and value.islower()


def is_text(value):
    """Whether any value is a text: a string of at most 40 signs from the space to `~`."""
    return is_signs(value) and len(value) <= MOST_SIGNS


def is_line(value):
    """Whether any value is a line: a tuple (home, number, cell, text)."""
    if not isinstance(value, tuple) or len(value) != 4:
        return False
    home, number, cell, text = value
    return is_count(home) and is_count(number) and is_cell(cell) and is_text(text)


def key(line):
    """The tuple (home, number) of a line."""
    if not is_line(line):
        raise InvalidLine(line)
    return line[:2]


def line_text(line):
    """The text of a line: home, number, cell and text, with one space between each two."""
    if not is_line(line):
        raise InvalidLine(line)
    home, number, cell, text = line
    return f"{home} {number} {cell} {text}"


def line_in(value):
    """The line of which a value is the text, or None if it is not the text of a line."""
    if not isinstance(value, str):
        return None
    # Only the first three spaces part the items: a text may have further ones.
    parts = value.split(" ", 3)
    if len(parts) != 4 or not is_numeral(parts[0]) or not is_numeral(parts[1]):
        return None
    line = (int(parts[0]), int(parts[1]), parts[2], parts[3])
    return line if is_line(line) else None


def read_line(text):
    """The line of which this is the text."""
    line = line_in(text)
    if line is None:
        raise InvalidText(text)
    return line
