"""Readers: what follows a book and is told each line of it once."""

from neverunsaid.basics import is_count
from neverunsaid.books import are_lines
from neverunsaid.errors import InvalidIndex, InvalidLines, Turned


class Reader:
    """A reader of one book, which has read nothing at first."""

    def __init__(self):
        self._told = []

    @property
    def read(self):
        """The tuple of the lines that it was told, in order."""
        return tuple(self._told)

    def follow(self, lines):
        """Return those of the lines of the book that stand behind the ones told before; they are told now."""
        if not are_lines(lines):
            raise InvalidLines(lines)
        for at, line in enumerate(self._told):
            if at >= len(lines) or lines[at] != line:
                raise Turned(at)
        fresh = list(lines[len(self._told):])
        self._told.extend(fresh)
        return fresh

    def forget(self, at):
        """Drop what it was told from an index on."""
        if not is_count(at) or at > len(self._told):
            raise InvalidIndex(at)
        self._told = self._told[:at]
