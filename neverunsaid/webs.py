"""What logs that are left tell by their orders alone: arrows, what is surely ahead, and what was surely held.

Lines are told by their keys. A lot of lines is an integer here: the bits of the ranks of its keys are 1, where the
rank of a key is its index among all keys of the logs. So a lot is joined with another one at once.
"""

from neverunsaid.books import key_of
from neverunsaid.trees import on_way, way


class Web:
    """The arrows of logs, which must be known to be rows of the tree. It never changes, whatever they become."""

    def __init__(self, tree, logs):
        self.tree = tree
        self.logs = [list(log) for log in logs]
        self.told = {}
        for log in self.logs:
            for line in log:
                self.told.setdefault(key_of(line), line)
        self.ordered = sorted(self.told)
        self.ranks = {key: rank for rank, key in enumerate(self.ordered)}
        self.places = [{key_of(line): at for at, line in enumerate(log)} for log in self.logs]
        self._over = self._lots_over()
        self._heads = [self._lots_ahead(log) for log in self.logs]
        self._wholes = [self._lot_of(list(places)) for places in self.places]
        self._tables = [self._table(house) for house in range(tree.houses)]

    def members(self, lot):
        """The ascending list of the keys in a lot."""
        return [key for rank, key in enumerate(self.ordered) if lot >> rank & 1]

    def borders(self, house, x, z):
        """The ascending list of the borders by which an arrow leads from a key to another one at a house."""
        found = []
        for at, places in enumerate(self.places):
            if x in places and on_way(self.tree, x[0], at, house):
                # Ahead of the border stands x, and not yet z, which may also be missing in this log.
                found += [(at, many) for many in range(places[x] + 1, places.get(z, len(places)) + 1)]
        return found

    def has_arrow(self, house, x, z):
        """Whether an arrow leads from a key of the logs to another one at a house."""
        return self._tables[house][self.ranks[z]] >> self.ranks[x] & 1 == 1

    def reach(self, house, z):
        """The lot of the lines from which an arrow leads to a key at a house, or two one behind the other."""
        table = self._tables[house]
        near = table[self.ranks[z]]
        lot = near
        for rank, further in enumerate(table):
            if near >> rank & 1:
                lot |= further
        return lot

    def surely_ahead(self, house, z):
        """The lot of the lines that are surely ahead of a key of the logs at a house, if the logs fit."""
        lot = 0
        # The lesser lines of its home are among these: by any log that has z, arrows lead from them to z at the home.
        for here in way(self.tree, z[0], house):
            lot |= self.reach(here, z)
        return lot

    def surely_held(self, house):
        """The lot of the lines that a house surely held, if the logs fit."""
        lot = 0
        for over, whole in zip(self._over[house], self._wholes):
            lot |= over & whole
        return lot

    def ring(self, house):
        """Two or three keys from each of which an arrow leads to the next one, and so around, or None."""
        if not goes_round(self._tables[house]):
            return None
        for key in self.ordered:
            for other in self.members(self.reach(house, key)):
                if self.has_arrow(house, key, other):
                    return self._ring_through(house, key, other)
        return None

    def _ring_through(self, house, key, other):
        """The ring by an arrow from a key to another one, from which one arrow or two lead back to it."""
        if self.has_arrow(house, other, key):
            return (key, other)
        between = [w for w in self.ordered if self.has_arrow(house, other, w) and self.has_arrow(house, w, key)]
        return (key, other, between[0])

    def _lot_of(self, keys):
        """The lot of the lines with different keys."""
        return sum([1 << self.ranks[key] for key in keys])

    def _lots_ahead(self, log):
        """For the key of each line of a log, the lot of the lines that are ahead of it there."""
        lots = {}
        lot = 0
        for line in log:
            lots[key_of(line)] = lot
            lot |= 1 << self.ranks[key_of(line)]
        return lots

    def _lots_over(self):
        """For each house and each goal, the lot of the lines whose way from home to the goal goes over the house."""
        houses = range(self.tree.houses)
        lots = [[0] * self.tree.houses for house in houses]
        for home in houses:
            lot = self._lot_of([key for key in self.ordered if key[0] == home])
            for goal in houses:
                for house in way(self.tree, home, goal):
                    lots[house][goal] |= lot
        return lots

    def _table(self, house):
        """For each rank, the lot of the lines from which an arrow leads to the key of this rank at a house."""
        table = []
        for key in self.ordered:
            lot = 0
            for over, heads, whole in zip(self._over[house], self._heads, self._wholes):
                lot |= over & heads.get(key, whole)
            table.append(lot)
        return table


def goes_round(table):
    """Whether arrows lead from some rank back to itself; a table has, for each rank, the lot one arrow ahead of it."""
    done = 0
    passed = 0
    path = []
    for start in range(len(table)):
        if not done >> start & 1:
            path.append(start)
        while len(path) > 0:
            here = path[-1]
            passed |= 1 << here
            left = table[here] & ~done
            # What was passed and is not done yet stands on the path, so an arrow to it closes a ring.
            if left & passed:
                return True
            if left == 0:
                done |= 1 << here
                path.pop()
            else:
                path.append(left.bit_length() - 1)
    return False
