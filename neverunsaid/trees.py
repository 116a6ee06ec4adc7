"""Trees of houses and roads, and the ways in them."""

from neverunsaid.basics import is_int, is_list, is_numeral
from neverunsaid.errors import (
    InvalidHouse, InvalidHouses, InvalidRoads, InvalidText, NotARoad, NotJoined,
)

MOST_HOUSES = 16


class Tree:
    """Houses, and roads that join all of them in just one way. A tree never changes."""

    def __init__(self, houses, roads):
        if not is_int(houses) or not 1 <= houses <= MOST_HOUSES:
            raise InvalidHouses(houses)
        if not _are_roads(houses, roads):
            raise InvalidRoads(roads)
        near = _near(houses, roads)
        reached = _steps_to(near, 0)
        for house in range(houses):
            if house not in reached:
                raise NotJoined(house)
        self.houses = houses
        self.roads = tuple(roads)
        self._near = near
        self._steps = [_steps_to(near, goal) for goal in range(houses)]

    def __len__(self):
        return len(self._near)

    def __contains__(self, value):
        return is_int(value) and 0 <= value < self.houses

    def __eq__(self, other):
        return isinstance(other, Tree) and self.houses == other.houses and self.roads == other.roads

    def line(self):
        """The number of houses and all roads in one line of text."""
        roads = [f" {u}-{v}" for u, v in self.roads]
        return f"{self.houses}:" + "".join(roads)

    def near(self, house):
        """The neighbours of a house of this tree, ascending."""
        return list(self._near[house])

    def step(self, house, goal):
        """The next house on the way from a house to the goal; the goal itself, once it is reached."""
        return self._steps[goal][house]


def _are_roads(houses, roads):
    """Whether a value is a list of one road less than there are houses, strictly ascending."""
    if not is_list(roads) or len(roads) != houses - 1:
        return False
    if not all([_is_road(houses, road) for road in roads]):
        return False
    return all([road < later for road, later in zip(roads, roads[1:])])


def _is_road(houses, value):
    """Whether a value is a tuple of two of the houses, the lesser one first."""
    if not isinstance(value, tuple) or len(value) != 2:
        return False
    u, v = value
    return is_int(u) and is_int(v) and 0 <= u < v < houses


def _near(houses, roads):
    """For each house, the ascending list of the houses to which a road leads from it."""
    near = [[] for house in range(houses)]
    for u, v in roads:
        near[u].append(v)
        near[v].append(u)
    return [sorted(found) for found in near]


def _steps_to(near, goal):
    """For each house from which a way leads to the goal, the next house on this way."""
    steps = {goal: goal}
    reached = [goal]
    while len(reached) > 0:
        here = reached.pop()
        for house in near[here]:
            if house not in steps:
                steps[house] = here
                reached.append(house)
    return steps


def check_house(tree, house):
    """Raise InvalidHouse unless the value is a house of the tree."""
    if house not in tree:
        raise InvalidHouse(house)


def are_neighbours(tree, u, v):
    """Whether a road of the tree joins two of its houses."""
    return v in tree.near(u)


def check_road(tree, u, v):
    """Raise an error unless the two values are houses of the tree and neighbours."""
    check_house(tree, u)
    check_house(tree, v)
    if not are_neighbours(tree, u, v):
        raise NotARoad(u, v)


def neighbours(tree, house):
    """The list of the neighbours of a house."""
    check_house(tree, house)
    return tree.near(house)


def way(tree, a, b):
    """The tuple of the houses on the way from a to b."""
    check_house(tree, a)
    check_house(tree, b)
    houses = [a]
    while houses[-1] != b:
        houses.append(tree.step(houses[-1], b))
    return tuple(houses)


def on_way(tree, a, b, house):
    """Whether a house is on the way from a to b."""
    check_house(tree, a)
    check_house(tree, b)
    check_house(tree, house)
    return house in way(tree, a, b)


def is_beyond(tree, u, v, house):
    """Whether a house is on u's side of the road between u and v."""
    return tree.step(v, house) == u


def side(tree, u, v):
    """The list of the houses on u's side of the road between u and v."""
    check_road(tree, u, v)
    return [house for house in range(tree.houses) if is_beyond(tree, u, v, house)]


def _road_in(word):
    """The two numbers of a word such as `0-1`, or None; whether they are a road is for the tree to tell."""
    first, _, second = word.partition("-")
    if not is_numeral(first) or not is_numeral(second):
        return None
    return (int(first), int(second))


def read_tree(text):
    """The tree that has this line."""
    if not isinstance(text, str):
        raise InvalidText(text)
    # The first word is the number of houses: a tree has one road less, so there are as many words as houses.
    words = text.split(" ")
    roads = [_road_in(word) for word in words[1:]]
    try:
        tree = Tree(len(words), roads)
    except (InvalidHouses, InvalidRoads, NotJoined):
        raise InvalidText(text) from None
    if tree.line() != text:
        raise InvalidText(text)
    return tree
