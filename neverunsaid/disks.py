"""Disks: files of signs of which a first part is synced."""

from neverunsaid.basics import is_count, is_signs
from neverunsaid.errors import InvalidCount, InvalidSigns


class Disk:
    """A disk with one file, which is empty at first."""

    def __init__(self):
        self._text = ""
        self._synced = 0

    @property
    def text(self):
        """All signs of the file."""
        return self._text

    @property
    def synced(self):
        """How many of the signs, from the first one on, are synced."""
        return self._synced

    def put(self, signs):
        """Put signs behind the file; they are not synced."""
        if not is_signs(signs):
            raise InvalidSigns(signs)
        self._text = self._text + signs

    def sync(self):
        """Make all signs synced."""
        self._synced = len(self._text)

    def trim(self, many):
        """Leave only the first signs, many of them, synced; there must be as many."""
        if not is_count(many) or many > len(self._text):
            raise InvalidCount(many)
        self._leave(many)

    def fall(self, keep):
        """Leave all synced signs and as many of the others as `keep` tells, as a stop does."""
        if not is_count(keep):
            raise InvalidCount(keep)
        loose = len(self._text) - self._synced
        self._leave(self._synced + keep % (loose + 1))

    def lose(self, many):
        """Leave only the first signs, many of them, synced; all of them if there are no more."""
        if not is_count(many):
            raise InvalidCount(many)
        self._leave(many)

    def _leave(self, many):
        """Leave the first signs, at most many of them, and make them synced."""
        self._text = self._text[:many]
        self._synced = len(self._text)
