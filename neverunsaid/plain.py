"""The plain store, in which nothing falls, and scripts of its deeds."""

from neverunsaid.basics import is_list
from neverunsaid.books import copy_of
from neverunsaid.errors import InvalidCell, InvalidScript, InvalidText, NothingUnderWay, Stopped
from neverunsaid.texts import is_cell, is_text
from neverunsaid.trees import are_neighbours, check_house, check_road

MOST_DEEDS = 2000


class Plain:
    """A plain store, at its beginning when it is created."""

    def __init__(self, tree):
        self.tree = tree
        self._books = [[] for house in range(tree.houses)]
        self._made = [0 for house in range(tree.houses)]
        self._waiting = {}
        for u, v in tree.roads:
            self._waiting[(u, v)] = []
            self._waiting[(v, u)] = []
        self._deeds = []

    def make(self, house, cell, text):
        """Make the next line of a house."""
        check_house(self.tree, house)
        if not is_cell(cell):
            raise InvalidCell(cell)
        if not is_text(text):
            raise InvalidText(text)
        line = (house, self._made[house], cell, text)
        self._made[house] += 1
        self._deeds.append(("make", house, cell, text))
        self._bring(line, house, house)
        return line

    def hand(self, u, v):
        """Hand the next line that is under way from u to v over."""
        check_road(self.tree, u, v)
        waiting = self._waiting[(u, v)]
        if len(waiting) == 0:
            raise NothingUnderWay(u, v)
        line = waiting.pop(0)
        self._deeds.append(("hand", u, v))
        self._bring(line, v, u)
        return line

    def row(self, house):
        """The book of a house."""
        check_house(self.tree, house)
        return tuple(self._books[house])

    def shows(self, house):
        """The copy of a book: its last line of each cell."""
        check_house(self.tree, house)
        return copy_of(self._books[house])

    def under_way(self, u, v):
        """The lines that are still to be handed over from u to v."""
        check_road(self.tree, u, v)
        return tuple(self._waiting[(u, v)])

    def rows(self):
        """The books of all houses."""
        return [list(book) for book in self._books]

    @property
    def script(self):
        """All deeds done so far."""
        return tuple(self._deeds)

    def _bring(self, line, house, sender):
        """Put a line behind the book of a house; the sender is the house itself if it made the line."""
        self._books[house].append(line)
        # A line is of this house's side of each road but the one it came over, so it goes on along all of these.
        for other in self.tree.near(house):
            if other != sender:
                self._waiting[(house, other)].append(line)


def is_deed(tree, value):
    """Whether any value is a deed in this tree, whether or not it can be done."""
    if not isinstance(value, tuple) or len(value) == 0:
        return False
    if value[0] == "make" and len(value) == 4:
        return value[1] in tree and is_cell(value[2]) and is_text(value[3])
    if value[0] == "hand" and len(value) == 3:
        return value[1] in tree and value[2] in tree and are_neighbours(tree, value[1], value[2])
    return False


def is_script(tree, value):
    """Whether any value is a list of at most 2000 deeds, whether or not they can be done."""
    return are_deeds(tree, value) and len(value) <= MOST_DEEDS


def are_deeds(tree, value):
    """Whether any value is a list of deeds, however many."""
    return is_list(value) and all([is_deed(tree, deed) for deed in value])


def run_plain(tree, script):
    """The plain store behind the deeds of a script."""
    if not is_script(tree, script):
        raise InvalidScript(script)
    return plain_behind(tree, script)


def plain_behind(tree, script):
    """The plain store behind deeds, however many."""
    plain = Plain(tree)
    for at, deed in enumerate(script):
        try:
            _do(plain, deed)
        except NothingUnderWay:
            raise Stopped(at) from None
    return plain


def _do(plain, deed):
    """Do a deed in a plain store."""
    if deed[0] == "make":
        plain.make(deed[1], deed[2], deed[3])
    else:
        plain.hand(deed[1], deed[2])
