"""Worlds: houses with their disks, the letters between them, and all that befalls them, act by act."""

from neverunsaid.acts import is_act_of
from neverunsaid.basics import is_count, is_list
from neverunsaid.disks import Disk
from neverunsaid.errors import Down, InvalidActs, NoLetter, NotStanding, Refused, Up
from neverunsaid.houses import House
from neverunsaid.trees import check_house

MOST_ACTS = 600


class World:
    """A world, at its beginning when it is created: all houses rose on empty disks."""

    def __init__(self, tree):
        self.tree = tree
        self.wrote = []
        self._disks = [Disk() for house in range(tree.houses)]
        self._houses = [House(tree, house, disk, house + 1) for house, disk in enumerate(self._disks)]
        self._lives = tree.houses
        self._under_way = []
        self._done = []

    def house(self, h):
        """The house with a number, or None while it is down."""
        check_house(self.tree, h)
        return self._houses[h]

    def disk(self, h):
        """The disk of a house."""
        check_house(self.tree, h)
        return self._disks[h]

    @property
    def letters(self):
        """The list of the letters under way, as tuples (sender, to, letter)."""
        return list(self._under_way)

    @property
    def acts(self):
        """The list of the acts done so far, as tuples."""
        return list(self._done)

    def tick(self, h):
        """Let a house tick."""
        self._send(h, self._up(h).tick())
        self._done.append(("tick", h))

    def write(self, h, cell, text):
        """Let a house write its next line, and return it."""
        line = self._up(h).write(cell, text)
        self.wrote.append(line)
        self._done.append(("write", h, cell, text))
        return line

    def carry(self, k):
        """Let the letter with an index come to its house; it is lost if that is down."""
        sender, to, letter = self._letter(k)
        sent = [] if self._houses[to] is None else self._houses[to].take(sender, letter)
        self._under_way.pop(k)
        self._send(to, sent)
        self._done.append(("carry", k))

    def drop(self, k):
        """Lose the letter with an index."""
        self._letter(k)
        self._under_way.pop(k)
        self._done.append(("drop", k))

    def double(self, k):
        """Put the letter with an index once more behind all others."""
        self._under_way.append(self._letter(k))
        self._done.append(("double", k))

    def stop(self, h, keep):
        """Take a house down; its disk falls."""
        self._up(h)
        self._disks[h].fall(keep)
        self._houses[h] = None
        self._done.append(("stop", h, keep))

    def cut(self, h, many):
        """Let the disk of a house that is down lose its end."""
        self._check_down(h)
        self._disks[h].lose(many)
        self._done.append(("cut", h, many))

    def rise(self, h):
        """Let a house that is down rise, with a life greater than all before."""
        self._check_down(h)
        self._lives += 1
        self._houses[h] = House(self.tree, h, self._disks[h], self._lives)
        self._done.append(("rise", h))

    def _up(self, h):
        """A house that is not down."""
        house = self.house(h)
        if house is None:
            raise Down(h)
        return house

    def _check_down(self, h):
        """Raise an error unless a house is down."""
        if self.house(h) is not None:
            raise Up(h)

    def _letter(self, k):
        """The letter with an index, as a tuple (sender, to, letter)."""
        if not is_count(k) or k >= len(self._under_way):
            raise NoLetter(k)
        return self._under_way[k]

    def _send(self, sender, sent):
        """Put letters that a house sends behind those under way."""
        self._under_way.extend([(sender, to, letter) for to, letter in sent])


def is_acts(tree, value):
    """Whether any value is a list of at most 600 acts with houses of the tree, whether or not they can be done."""
    if not is_list(value) or len(value) > MOST_ACTS:
        return False
    return all([is_act_of(tree, act) for act in value])


def run(tree, acts):
    """The world behind these acts."""
    if not is_acts(tree, acts):
        raise InvalidActs(acts)
    world = World(tree)
    for at, act in enumerate(acts):
        try:
            do_act(world, act)
        except (Down, Up, NoLetter, NotStanding):
            raise Refused(at) from None
    return world


def do_act(world, act):
    """Do an act with houses of the tree in a world, and return what it returns."""
    if act[0] == "write":
        return world.write(act[1], act[2], act[3])
    if act[0] == "stop":
        return world.stop(act[1], act[2])
    if act[0] == "cut":
        return world.cut(act[1], act[2])
    return _do_short(world, act[0], act[1])


def _do_short(world, word, at):
    """Do an act that has one house or one index behind its word."""
    if word == "tick":
        return world.tick(at)
    if word == "rise":
        return world.rise(at)
    if word == "carry":
        return world.carry(at)
    if word == "drop":
        return world.drop(at)
    return world.double(at)
