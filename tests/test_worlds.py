"""Points [161] to [163] and the interface under neverunsaid/worlds.py."""

import copy
import unittest

from helpers import assert_invalid, assert_told, drawn_tree, not_houses, row_tree, run_examples, snapshot, star_tree, values_of_all_kinds
from models import MOODS, WorldByWords, do, drawn_act, house_state, seeded
from neverunsaid.disks import Disk
from neverunsaid.errors import (
    Down, InvalidActs, InvalidCell, InvalidCount, InvalidHouse, InvalidText, NoLetter, NotStanding, Refused, Up,
)
from neverunsaid.houses import House
from neverunsaid.texts import is_cell, is_text
from neverunsaid.trees import Tree
from neverunsaid.worlds import World, is_acts, run

EXAMPLES = """
>>> from neverunsaid.trees import Tree
>>> from neverunsaid.worlds import World, is_acts, run
>>> world = run(Tree(2, [(0, 1)]), [("tick", 0)] * 11)
>>> [world.house(0).stage, world.house(0).era, world.letters]
['held', (1, 0, 1), [(0, 1, ('halt', (1, 0, 1)))]]
>>> [world.carry(0), world.letters, world.carry(0), world.letters]
[None, [(1, 0, ('held', (1, 0, 1), 1, 2, ()))], None, [(0, 1, ('sure', (1, 0, 1)))]]
>>> [world.carry(0), world.letters, world.carry(0), world.letters]
[None, [(1, 0, ('still', (1, 0, 1), 1, 2))], None, [(0, 1, ('take', (1, 0, 1), 2, 0, ()))]]
>>> [world.carry(0), world.letters, world.carry(0), world.house(0).stage, world.house(1).stage]
[None, [(1, 0, ('taken', (1, 0, 1), 1))], None, 'standing', 'taken']
>>> [world.write(0, "bell", "rings at five"), world.stop(0, 7), world.house(0), world.disk(0).text]
[(0, 0, 'bell', 'rings at five'), None, None, '00220 0 bell rings at five.']
>>> [world.cut(0, 20), world.rise(0), world.house(0).life, world.house(0).book, world.acts[18:]]
[None, None, 3, (), [('stop', 0, 7), ('cut', 0, 20), ('rise', 0)]]
>>> [is_acts(world.tree, [("carry", 7), ("rise", 1)]), is_acts(world.tree, [("tick", 2)])]
[True, False]
>>> run(world.tree, [("tick", 0), ("rise", 1)])
raises Refused(1)
"""

ROW = row_tree(3)
# One act of each kind, and in words what its items are.
ACTS = [
    (("tick", 2), "word house"), (("write", 1, "bell", "two words"), "word house cell text"), (("carry", 7), "word count"),
    (("drop", 0), "word count"), (("double", 3), "word count"), (("stop", 0, 3), "word house count"), (("cut", 1, 20), "word house count"),
    (("rise", 2), "word house"),
]


def fits(tree, what, value):
    """Whether a value fits where an item of an act stands, by the words of point [163]."""
    if what in ("house", "count"):
        return type(value) is int and 0 <= value < (tree.houses if what == "house" else value + 1)
    return {"cell": is_cell, "text": is_text}[what](value)


def act_by_words(tree, value):
    if type(value) is not tuple or not value:
        return False
    for act, form in ACTS:
        if value[0] == act[0] and len(value) == len(act):
            return all(fits(tree, what, item) for what, item in list(zip(form.split(), value))[1:])
    return False


def acts_by_words(tree, value):
    return type(value) in (list, tuple) and len(value) <= 600 and all(act_by_words(tree, act) for act in value)


def state(world):
    """All that a world tells of itself."""
    houses = [world.house(h) for h in range(world.tree.houses)]
    return ([house and house_state(house) for house in houses], world.letters, world.acts,
            [(world.disk(h).text, world.disk(h).synced) for h in range(world.tree.houses)])


def stood(tree):
    """A world of which house 0 stands."""
    world = World(tree)
    while world.house(0).stage != "standing":
        world.tick(0)
        while world.letters:
            world.carry(0)
    return world


class Point161(unittest.TestCase):
    def test_examples_of_the_interface(self):
        run_examples(self, EXAMPLES)

    def test_a_world_at_its_beginning(self):
        for tree in (Tree(1, []), ROW, star_tree(16)):
            world = World(tree)
            self.assertIs(world.tree, tree)
            self.assertEqual((world.letters, world.acts), ([], []))
            for h in range(tree.houses):
                house, disk = world.house(h), world.disk(h)
                self.assertEqual((type(house), type(disk), disk.text, disk.synced), (House, Disk, "", 0))
                self.assertEqual(house_state(house), (tree, h, h + 1, (), "risen", None, 0, 0))
                self.assertIs(house.disk, disk)
            disks = [world.disk(h) for h in range(tree.houses)]
            self.assertEqual(len({id(disk) for disk in disks}), tree.houses)

    def test_the_very_houses_and_disks(self):
        world = stood(ROW)
        house, disk = world.house(0), world.disk(0)
        world.write(0, "bell", "x")
        world.tick(0)
        self.assertIs(world.house(0), house)
        self.assertEqual(house.book, ((0, 0, "bell", "x"),))
        world.stop(0, 0)
        self.assertIsNone(world.house(0))
        world.cut(0, 3)
        self.assertIs(world.disk(0), disk)
        self.assertEqual(disk.text, "001")
        world.rise(0)
        self.assertEqual((world.house(0).book, disk.text), ((), ""))
        self.assertIsNot(world.house(0), house)
        self.assertIs(world.house(0).disk, disk)
        self.assertIs(world.disk(0), disk)

    def test_wrong_houses(self):
        for tree in (Tree(1, []), ROW, star_tree(16)):
            world = World(tree)
            before = state(world)
            for value in not_houses(tree):
                for call in (world.house, world.disk, world.tick, world.rise):
                    assert_invalid(self, InvalidHouse, value, call, value)
                for call in (world.stop, world.cut):
                    assert_invalid(self, InvalidHouse, value, call, value, None)
                assert_invalid(self, InvalidHouse, value, world.write, value, None, None)
            self.assertEqual(state(world), before)

    def test_lists_are_new(self):
        world = run(ROW, [("tick", 0)] * 12)
        for told in (world.letters, world.acts):
            told.clear()
        self.assertEqual((len(world.letters), len(world.acts)), (2, 12))
        self.assertIsNot(world.letters, world.letters)
        self.assertIsNot(world.acts, world.acts)


class Point162(unittest.TestCase):
    def test_drawn_acts_do_what_the_words_tell(self):
        kinds = {}
        for number in range(60):
            draw = seeded(162, number)
            tree = drawn_tree(draw, draw.choice([1, 2, 3, 3, 4, 5]))
            world, model = World(tree), WorldByWords(tree)
            if draw.random() < 0.7:
                for act in settling(tree):
                    model.do(act)
                    do(world, act)
            for _ in range(150):
                act = drawn_act(draw, world, MOODS[number % len(MOODS)])
                self.assertEqual(repr(do(world, act)), repr(model.do(act)))
                kinds[act[0]] = kinds.get(act[0], 0) + 1
                self.compare(world, model)
        self.assertGreater(min(kinds[act[0]] for act, _ in ACTS), 100)

    def compare(self, world, model):
        houses = [house and house.state() for house in model.houses]
        disks = [(text, len(text)) for text in model.texts]
        self.assertEqual(state(world), (houses, model.letters, model.acts, disks))

    def test_acts_that_cannot_be_done_change_nothing(self):
        refused = {}
        for number in range(40):
            draw = seeded(163, number)
            tree = drawn_tree(draw, draw.choice([1, 2, 3, 4]))
            world, model = World(tree), WorldByWords(tree)
            for _ in range(120):
                act = drawn_act(draw, world, MOODS[number % len(MOODS)])
                do(world, act)
                model.do(act)
                before = state(world)
                other = draw.choice(ACTS)[0]
                act = (other[0], draw.randrange(tree.houses if other[0] not in ("carry", "drop", "double") else 9)) + other[2:]
                try:
                    copy.deepcopy(model).do(act)
                except (Down, Up, NoLetter, NotStanding) as wrong:
                    assert_told(self, wrong, do, world, act)
                    refused[type(wrong)] = refused.get(type(wrong), 0) + 1
                    self.assertEqual(state(world), before)
        self.assertEqual(len(refused), 4)

    def test_errors_in_their_order_with_the_very_values(self):
        world = World(ROW)
        world.stop(2, 0)
        before = state(world)
        for h, wrong in ((2, Down(2)),):
            for call, args in ((world.tick, ()), (world.stop, (None,)), (world.stop, (0,)), (world.write, (None, None)), (world.write, ("a", ""))):
                assert_told(self, wrong, call, h, *args)
        for call, args in ((world.rise, ()), (world.cut, (None,)), (world.cut, (0,))):
            assert_told(self, Up(1), call, 1, *args)
        assert_told(self, NotStanding("risen"), world.write, 1, None, None)
        for value in values_of_all_kinds():
            if type(value) is not int or value < 0:
                assert_invalid(self, InvalidCount, value, world.stop, 1, value)
                assert_invalid(self, InvalidCount, value, world.cut, 2, value)
        self.assertEqual(state(world), before)

    def test_letters_that_are_none(self):
        world = World(ROW)
        for many in (0, 2, 4):
            self.assertEqual(len(world.letters), many)
            before = state(world)
            for value in values_of_all_kinds():
                if type(value) is not int or not 0 <= value < many:
                    for call in (world.carry, world.drop, world.double):
                        with self.assertRaises(NoLetter) as caught:
                            call(value)
                        self.assertIs(caught.exception.k, value)
            self.assertEqual(state(world), before)
            for _ in range(12 if many == 0 else 1):
                world.tick(0)

    def test_wrong_cells_and_texts(self):
        world = stood(Tree(1, []))
        before = state(world)
        for value in values_of_all_kinds():
            if not is_cell(value):
                assert_invalid(self, InvalidCell, value, world.write, 0, value, None)
            if not is_text(value):
                assert_invalid(self, InvalidText, value, world.write, 0, "bell", value)
        self.assertEqual(state(world), before)

    def test_letters_stand_in_the_order_in_which_they_were_sent(self):
        world = run(star_tree(4), [("tick", 0)] * 13)
        halts = [(0, to, ("halt", (1, 0, 1))) for to in (1, 2, 3)]
        self.assertEqual(world.letters, halts)
        world.carry(1)
        held = (2, 0, ("held", (1, 0, 1), 2, 3, ()))
        self.assertEqual(world.letters, [halts[0], halts[2], held])
        world.double(1)
        self.assertEqual(world.letters, [halts[0], halts[2], held, halts[2]])
        world.drop(0)
        self.assertEqual(world.letters, [halts[2], held, halts[2]])
        world.stop(3, 0)
        world.carry(2)
        self.assertEqual(world.letters, [halts[2], held])
        world.rise(3)
        world.carry(0)
        self.assertEqual(world.letters, [held, (3, 0, ("held", (1, 0, 1), 3, 5, ()))])

    def test_lives(self):
        world = World(ROW)
        lives = []
        for h in (0, 2, 2, 1, 0):
            world.stop(h, 10 ** 19)
            world.rise(h)
            lives.append(world.house(h).life)
        self.assertEqual(lives, [4, 5, 6, 7, 8])

    def test_a_stop_loses_nothing_and_a_cut_just_the_end(self):
        for keep in range(4):
            world = stood(Tree(1, []))
            world.write(0, "bell", "rings")
            world.write(0, "bell", "")
            text = world.disk(0).text
            world.stop(0, keep)
            self.assertEqual(world.disk(0).text, text)
            for many in range(len(text) + 2, -1, -1):
                world.cut(0, many)
                self.assertEqual(world.disk(0).text, text[:many])
            world.rise(0)
            self.assertEqual((world.house(0).book, world.house(0).stage, world.house(0).life), ((), "risen", 2))

    def test_worlds_of_one_tree_know_nothing_of_each_other(self):
        one, other = World(ROW), World(ROW)
        before = state(other)
        draw = seeded(9)
        for _ in range(200):
            do(one, drawn_act(draw, one, MOODS[1]))
        self.assertEqual(state(other), before)
        self.assertNotEqual(state(one), before)


def settling(tree):
    """Acts behind which all houses stand."""
    world = World(tree)
    while any(world.house(h).stage != "standing" for h in range(tree.houses)):
        for h in range(tree.houses):
            world.tick(h)
        while world.letters:
            world.carry(0)
    return world.acts


class Point163(unittest.TestCase):
    def test_acts_of_each_kind(self):
        acts = [act for act, _ in ACTS]
        self.assertEqual([is_acts(ROW, value) for value in (acts, tuple(acts), [], (), acts * 75)], [True] * 5)
        for act in acts:
            self.assertIs(is_acts(ROW, [act]), True)
            self.assertIs(is_acts(ROW, act), False)

    def test_one_thing_changed_at_any_place(self):
        values = values_of_all_kinds() + [10 ** 19, "tick", "x" * 40]
        for act, _ in ACTS:
            for at in range(len(act)):
                for value in values:
                    near = act[:at] + (value,) + act[at + 1:]
                    for acts in ([near], [("rise", 0), near, ("tick", 1)]):
                        self.assertIs(is_acts(ROW, acts), act_by_words(ROW, near), near)
            for near in [act[:many] for many in range(len(act))] + [act + (0,), act + ("",), list(act), (act,), act[::-1]]:
                self.assertIs(is_acts(ROW, [near]), False, near)
            for other, _ in ACTS:
                near = other[:1] + act[1:]
                self.assertIs(is_acts(ROW, [near]), act_by_words(ROW, near), near)

    def test_houses_of_the_tree(self):
        for tree in (Tree(1, []), ROW, star_tree(16)):
            for act, form in ACTS:
                for number in (0, 1, 2, 3, 15, 16, True, False, -1):
                    near = act[:1] + (number,) + act[2:]
                    if "count" in form.split()[1]:
                        self.assertIs(is_acts(tree, [near]), type(number) is int and number >= 0)
                    else:
                        self.assertIs(is_acts(tree, [near]), type(number) is int and 0 <= number < tree.houses)

    def test_six_hundred_acts_and_one_more(self):
        for act in (("tick", 0), ("carry", 0)):
            self.assertEqual([is_acts(ROW, [act] * many) for many in (599, 600, 601, 2500)], [True, True, False, False])
        world = run(ROW, [("tick", 0)] * 600)
        self.assertEqual(world.acts, [("tick", 0)] * 600)
        acts = [("tick", 0)] * 601
        assert_invalid(self, InvalidActs, acts, run, ROW, acts)

    def test_any_value(self):
        for tree in (Tree(1, []), ROW, star_tree(16)):
            for value in values_of_all_kinds() + [[act] for act, _ in ACTS]:
                before = snapshot(value)
                right = acts_by_words(tree, value)
                self.assertIs(is_acts(tree, value), right, value)
                self.assertEqual(snapshot(value), before)
                if not right:
                    assert_invalid(self, InvalidActs, value, run, tree, value)

    def test_run_does_the_acts_one_behind_the_other(self):
        for number in range(30):
            draw = seeded(1630, number)
            tree = drawn_tree(draw, draw.choice([1, 2, 3, 4, 5]))
            world = World(tree)
            for _ in range(draw.choice([0, 10, 200, 600])):
                do(world, drawn_act(draw, world, MOODS[number % len(MOODS)]))
            acts = world.acts
            for again in (run(tree, acts), run(tree, tuple(acts))):
                self.assertEqual(state(again), state(world))
            again = run(tree, acts)
            acts.clear()
            self.assertEqual(again.acts, world.acts)

    def test_refused_at_each_place(self):
        refused = [("rise", 0), ("cut", 1, 0), ("carry", 99), ("drop", 99), ("double", 99), ("write", 2, "a", "")]
        draw = seeded(4)
        world = World(ROW)
        for _ in range(40):
            acts = world.acts
            for act in refused:
                if act[0] in ("rise", "cut") and world.house(act[1]) is None:
                    act = (("stop", act[1], 0), ("tick", act[1]), ("write", act[1], "a", ""))[len(acts) % 3]
                assert_told(self, Refused(len(acts)), run, ROW, acts + [act])
                assert_told(self, Refused(len(acts)), run, ROW, acts + [act, ("tick", 0), ("carry", 99)])
            do(world, drawn_act(draw, world, MOODS[2], most_lines=0))
        acts = [("tick", 0), ("rise", 5)]
        assert_invalid(self, InvalidActs, acts, run, ROW, acts)


if __name__ == "__main__":
    unittest.main()
