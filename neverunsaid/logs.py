"""Logs: books of lines on disks."""

from neverunsaid.books import are_lines
from neverunsaid.errors import InvalidLines
from neverunsaid.frames import framed, frames_in
from neverunsaid.texts import line_in, line_text


class Log:
    """The log on a disk. It tells what it read when it was opened and what was put since."""

    def __init__(self, disk):
        lines = lines_on(disk)
        disk.trim(len(_frames_of(lines)))
        self.disk = disk
        self._lines = lines

    @property
    def lines(self):
        """The tuple of the lines of the log."""
        return tuple(self._lines)

    def __len__(self):
        return len(self._lines)

    def put(self, lines):
        """Put lines behind the log, synced at once."""
        if not are_lines(lines):
            raise InvalidLines(lines)
        # Without lines not even signs that were put by hand are synced.
        if len(lines) > 0:
            self.disk.put(_frames_of(lines))
            self.disk.sync()
            self._lines.extend(lines)


def lines_on(disk):
    """The list of the lines that a log would have which is opened on a disk; the disk stays as it is."""
    texts, _ = frames_in(disk.text)
    lines = []
    for text in texts:
        line = line_in(text)
        if line is None:
            break
        lines.append(line)
    return lines


def _frames_of(lines):
    """The frames of the lines, one behind the other."""
    return "".join([framed(line_text(line)) for line in lines])
