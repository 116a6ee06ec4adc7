"""The desk: acts as lines, a world that is moved by them, and boards that show what its houses know."""

from neverunsaid.acts import form_of, is_act, is_act_of
from neverunsaid.basics import is_numeral
from neverunsaid.errors import Down, InvalidAct, InvalidLine
from neverunsaid.worlds import World, do_act


def act_line(act):
    """The line of an act: its items with a space between each two."""
    if not is_act(act):
        raise InvalidAct(act)
    return " ".join([str(item) for item in act])


def read_act(line):
    """The act of which this is the line."""
    act = _act_in(line)
    if act is None:
        raise InvalidLine(line)
    return act


class Desk:
    """A world of its own, and what can be told and shown at a desk for it."""

    def __init__(self, tree):
        self.world = World(tree)

    def do(self, line):
        """Do the act of a line, and return what it returns."""
        act = _act_in(line)
        if not is_act_of(self.world.tree, act):
            raise InvalidLine(line)
        return do_act(self.world, act)

    def board(self, h):
        """The list of the lines of the copy of a house, as cells and texts, cells ascending."""
        house = self.world.house(h)
        if house is None:
            raise Down(h)
        return [f"{line[2]}: {line[3]}" for line in house.shows()]


def _act_in(value):
    """The act of which any value is the line, or None if it is not the line of an act."""
    if not isinstance(value, str):
        return None
    # Only the first three spaces part the items: a text may have further ones.
    words = value.split(" ", 3)
    form = form_of(words[0])
    if form is None or len(words) != 1 + len(form):
        return None
    act = tuple(words[:1] + [_item_in(kind, word) for kind, word in zip(form, words[1:])])
    return act if is_act(act) else None


def _item_in(kind, word):
    """The item that a word tells; what it wrongly tells is no item of any act."""
    if kind in ("cell", "text"):
        return word
    return int(word) if is_numeral(word) else None
