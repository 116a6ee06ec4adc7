"""Point [171], the last statement of point [9] and the interface under neverunsaid/calm.py."""

import copy
import unittest

from helpers import drawn_tree, row_tree, run_examples, star_tree
from models import MOODS, do, drawn_act, lines_in, seeded
from neverunsaid.calm import bound, calm_round, is_settled, lacking, settle
from neverunsaid.trees import Tree
from neverunsaid.worlds import World

EXAMPLES = """
>>> from neverunsaid.calm import bound, calm_round, is_settled, lacking, settle
>>> from neverunsaid.trees import Tree
>>> from neverunsaid.worlds import World
>>> world = World(Tree(2, [(0, 1)]))
>>> [is_settled(world), settle(world), bound(world.tree), is_settled(world), settle(world)]
[False, 14, 32, True, 0]
>>> [world.write(0, "bell", "rings at five"), lacking(world), is_settled(world)]
[(0, 0, 'bell', 'rings at five'), 1, False]
>>> [calm_round(world), lacking(world), world.house(1).book]
[None, 0, ((0, 0, 'bell', 'rings at five'),)]
"""


def houses(world):
    return [world.house(h) for h in range(world.tree.houses)]


def settled_by_words(world):
    if any(house is None or house.stage != "standing" for house in houses(world)):
        return False
    return len({house.era for house in houses(world)}) == 1 and len({frozenset(house.book) for house in houses(world)}) == 1


def lacking_by_words(world):
    keys = [{line[:2] for line in lines_in(world.disk(h).text)} for h in range(world.tree.houses)]
    return len([(h, key) for key in set().union(*keys) for h, own in enumerate(keys) if key not in own])


def round_by_words(world):
    """A calm round, act by act."""
    for h, house in enumerate(houses(world)):
        if house is None:
            world.rise(h)
    for h in range(world.tree.houses):
        world.tick(h)
    for _ in ("once", "twice"):
        for _ in list(world.letters):
            world.carry(0)


def drawn_world(number):
    """A world behind drawn acts, perhaps amid mendings, with houses that are down and disks that are cut."""
    draw = seeded(171, number)
    world = World(drawn_tree(draw, draw.choice([1, 2, 3, 3, 4, 5])))
    if draw.random() < 0.7:
        settle(world)
    for _ in range(draw.randrange(200)):
        do(world, drawn_act(draw, world, MOODS[number % len(MOODS)]))
    return world


class Point171(unittest.TestCase):
    def test_examples_of_the_interface(self):
        run_examples(self, EXAMPLES)

    def test_a_calm_round_by_hand(self):
        world = World(star_tree(3))
        for h in (2, 0):
            world.stop(h, 1)
        self.assertIsNone(calm_round(world))
        ticks = [("tick", 0), ("tick", 1), ("tick", 2)]
        self.assertEqual(world.acts, [("stop", 2, 1), ("stop", 0, 1), ("rise", 0), ("rise", 2)] + ticks)
        for _ in range(10):
            calm_round(world)
        self.assertEqual(world.acts, [("stop", 2, 1), ("stop", 0, 1), ("rise", 0), ("rise", 2)] + ticks * 11)
        # The 12th tick of house 0 sends two letters; they are answered in the first time, and these answers in the second.
        calm_round(world)
        self.assertEqual(world.acts[-7:], ticks + [("carry", 0)] * 4)
        self.assertEqual(world.letters, [(0, 1, ("sure", (1, 0, 4))), (0, 2, ("sure", (1, 0, 4)))])
        # The next tick asks again, so there are four such letters, four answers, and two parts of the plan.
        calm_round(world)
        self.assertEqual(world.acts[-11:], ticks + [("carry", 0)] * 8)
        self.assertEqual([letter[0] for _, _, letter in world.letters], ["take", "take"])

    def test_a_calm_round_is_done_by_these_acts(self):
        for number in range(60):
            world = drawn_world(number)
            twin = copy.deepcopy(world)
            for _ in range(4):
                self.assertIsNone(calm_round(world))
                round_by_words(twin)
                self.assertEqual((world.acts, world.letters), (twin.acts, twin.letters))

    def test_a_settled_world(self):
        seen = {True: 0, False: 0}
        for number in range(60):
            world = drawn_world(number)
            for _ in range(bound(world.tree) + 2):
                told = is_settled(world)
                seen[told] += 1
                self.assertIs(told, settled_by_words(world))
                calm_round(world)
        self.assertGreater(min(seen.values()), 100)

    def test_what_keeps_a_world_from_being_settled(self):
        world = World(row_tree(3))
        self.assertIs(is_settled(world), False)
        settle(world)
        self.assertIs(is_settled(world), True)
        world.write(1, "bell", "")
        self.assertIs(is_settled(world), False)
        calm_round(world)
        self.assertIs(is_settled(world), True)
        # Lines that come to houses in different orders are equal lots.
        world.write(0, "bell", "")
        world.write(2, "bell", "")
        calm_round(world)
        calm_round(world)
        self.assertNotEqual(world.house(0).book, world.house(2).book)
        self.assertIs(is_settled(world), True)
        world.stop(1, 0)
        self.assertIs(is_settled(world), False)
        world.rise(1)
        self.assertIs(is_settled(world), False)

    def test_houses_that_stand_in_unlike_eras_are_not_settled(self):
        world = World(row_tree(3))
        settle(world)
        # No acts lead to this: letters that no house of this world sent let one of them stand in another era.
        era = (9, 0, 1)
        for letter in (("halt", era), ("take", era, 2, 0, ()), ("have", era, 0, 0)):
            world.house(1).take(0, letter)
        self.assertEqual([house.stage for house in houses(world)], ["standing"] * 3)
        self.assertIs(is_settled(world), False)

    def test_settle_tells_how_many_rounds_it_did(self):
        for number in range(80):
            world = drawn_world(number)
            held = {line for h in range(world.tree.houses) for line in lines_in(world.disk(h).text)}
            twin = copy.deepcopy(world)
            many = settle(world)
            self.assertLessEqual(many, bound(world.tree))
            for _ in range(many):
                self.assertIs(settled_by_words(twin), False)
                round_by_words(twin)
            self.assertEqual((world.acts, world.letters), (twin.acts, twin.letters))
            self.assertIs(settled_by_words(world), True)
            self.assertEqual((settle(world), world.acts), (0, twin.acts))
            for house in houses(world):
                self.assertLessEqual(held, set(house.book))
            self.assertEqual(lacking(world), 0)

    def test_bound(self):
        self.assertEqual([bound(Tree(1, [])), bound(row_tree(2)), bound(row_tree(3)), bound(star_tree(16))], [26, 32, 38, 116])

    def test_lacking_is_less_behind_each_calm_round_of_houses_that_stand(self):
        rounds = 0
        for number in range(60):
            draw = seeded(1710, number)
            world = World(drawn_tree(draw, draw.choice([2, 3, 4, 5, 8])))
            settle(world)
            while world.letters:
                world.carry(0)
            for _ in range(4):
                for _ in range(draw.randrange(5)):
                    world.write(draw.randrange(world.tree.houses), "bell", "x")
                for _ in range(draw.randrange(3)):
                    before = lacking(world)
                    self.assertEqual((world.letters, before), ([], lacking_by_words(world)))
                    calm_round(world)
                    self.assertEqual(world.letters, [])
                    self.assertTrue(lacking(world) < before or before == lacking(world) == 0)
                    rounds += before > 0
        self.assertGreater(rounds, 100)

    def test_lacking_in_drawn_worlds_counts_what_disks_hold(self):
        found = 0
        for number in range(80):
            world = drawn_world(number)
            self.assertEqual(lacking(world), lacking_by_words(world))
            found += lacking(world) > 0
        self.assertGreater(found, 20)

    def test_lacking_counts_disks_of_houses_that_are_down(self):
        world = World(row_tree(3))
        settle(world)
        world.write(1, "bell", "")
        world.write(1, "bell", "")
        self.assertEqual(lacking(world), 4)
        world.stop(1, 0)
        self.assertEqual(lacking(world), 4)
        world.cut(1, 20)
        self.assertEqual(lacking(world), 2)
        world.cut(1, 0)
        self.assertEqual(lacking(world), 0)

    def test_sixteen_houses_and_many_lines(self):
        for tree in (row_tree(16), star_tree(16), star_tree(16, 15), drawn_tree(seeded(5), 16)):
            draw = seeded(1711, tree.line())
            world = World(tree)
            self.assertLessEqual(settle(world), bound(tree))
            for number in range(120):
                world.write(draw.randrange(16), "bell", "x" * 40)
                if number % 30 == 29:
                    calm_round(world)
            for _ in range(2):
                for h in range(16):
                    if draw.random() < 0.7:
                        world.stop(h, 7)
                        world.cut(h, draw.randrange(len(world.disk(h).text) + 1))
                lines = {line for h in range(16) for line in lines_in(world.disk(h).text)}
                self.assertLessEqual(settle(world), bound(tree))
                for house in houses(world):
                    self.assertLessEqual(lines, set(house.book))


if __name__ == "__main__":
    unittest.main()
