"""Calm: rounds in which nothing is lost, and how they lead to a world that is settled."""

from neverunsaid.books import key_of
from neverunsaid.examiner import rows_left


def calm_round(world):
    """Let all houses rise and tick, and all letters come twice."""
    houses = range(world.tree.houses)
    for house in houses:
        if world.house(house) is None:
            world.rise(house)
    for house in houses:
        world.tick(house)
    for _ in range(2):
        for _ in range(len(world.letters)):
            world.carry(0)


def is_settled(world):
    """Whether all houses stand in one era and have the same lines."""
    houses = [world.house(house) for house in range(world.tree.houses)]
    if not all([house is not None and house.stage == "standing" for house in houses]):
        return False
    lots = [sorted(house.book) for house in houses]
    return all([house.era == houses[0].era and lot == lots[0] for house, lot in zip(houses, lots)])


def settle(world):
    """Do calm rounds until the world is settled, and return how many."""
    many = 0
    while not is_settled(world):
        calm_round(world)
        many += 1
    return many


def bound(tree):
    """How many calm rounds are always enough for a world to be settled."""
    return 20 + 6 * tree.houses


def lacking(world):
    """The number of all tuples (house, key) such that some disk has a line with the key, but not that of the house."""
    keys = [{key_of(line): True for line in row} for row in rows_left(world)]
    everywhere = {key: True for found in keys for key in found}
    return sum([len(everywhere) - len(found) for found in keys])
