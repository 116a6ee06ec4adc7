"""Mendings: how long a house waits before it begins one, and what a house that leads one knows of it."""

from neverunsaid.plans import plan
from neverunsaid.trees import check_house


def wait_of(tree, house):
    """How many ticks a house that does not stand lets pass before it begins a mending."""
    check_house(tree, house)
    # Houses that rise at one moment wait unlike times, so one of them begins ahead of the others.
    return 8 + tree.houses + 3 * house


class Mending:
    """What the house that began a mending was told for it so far. Its own log is the first one that is told."""

    def __init__(self, tree, era, log):
        self._tree = tree
        self._era = era
        self._others = [house for house in range(tree.houses) if house != era[1]]
        self._told = {era[1]: log}
        self._lives = {}
        self._still = {}
        self._rows = None
        self._done = {}

    def is_told(self):
        """Whether the logs of all houses are told."""
        return len(self._told) == self._tree.houses

    def is_planned(self):
        """Whether there is a plan."""
        return self._rows is not None

    def is_done(self):
        """Whether all other houses have taken their parts of the plan."""
        return len(self._done) == len(self._others)

    def requests(self):
        """The letters to all other houses whose answers are still missing, ascending, as tuples (to, letter)."""
        if not self.is_told():
            return [(house, ("halt", self._era)) for house in self._others if house not in self._told]
        if not self.is_planned():
            return [(house, ("sure", self._era)) for house in self._others if house not in self._still]
        return [(house, self._part_of(house)) for house in self._others if house not in self._done]

    def tell(self, house, life, log):
        """Keep the log of another house, and tell whether it was not told before."""
        if house in self._told:
            return False
        self._told[house] = log
        self._lives[house] = life
        return True

    def still(self, house, life):
        """Keep that another house holds still in a life, and tell whether this counts; the last one gives the plan."""
        if not self.is_told() or self.is_planned() or life != self._lives[house]:
            return False
        if len([other for other in self._others if other not in self._still and other != house]) == 0:
            # The plan comes first: where the logs do not fit, nothing is changed by the error.
            self._rows = plan(self._tree, [self._told[other] for other in range(self._tree.houses)])
        self._still[house] = True
        return True

    def took(self, house):
        """Keep that another house has taken its part, and tell whether there is a plan of which it can be."""
        if not self.is_planned():
            return False
        self._done[house] = True
        return True

    def lines_for(self, house):
        """The lines of the plan that stand behind the log of a house, as a tuple."""
        return tuple(self._rows[house][len(self._told[house]):])

    def _part_of(self, house):
        """The letter that hands its part of the plan to another house."""
        return ("take", self._era, self._lives[house], len(self._told[house]), self.lines_for(house))
