"""Point [173] and the interface under neverunsaid/desk.py."""

import unittest

from helpers import assert_invalid, assert_told, drawn_tree, is_int, not_houses, row_tree, run_examples, star_tree, values_of_all_kinds
from models import MOODS, do, drawn_act, house_state, seeded
from neverunsaid.calm import settle
from neverunsaid.desk import Desk, act_line, read_act
from neverunsaid.errors import (
    Down, InvalidAct, InvalidHouse, InvalidLine, NoLetter, NotStanding, UnsaidError, Up,
)
from neverunsaid.texts import is_cell, is_text
from neverunsaid.trees import Tree
from neverunsaid.worlds import World

EXAMPLES = """
>>> from neverunsaid.calm import settle
>>> from neverunsaid.desk import Desk, act_line, read_act
>>> from neverunsaid.trees import Tree
>>> desk = Desk(Tree(2, [(0, 1)]))
>>> [settle(desk.world), desk.do("write 1 bell rings at five"), desk.do("write 1 bell "), desk.do("write 1 a x")]
[14, (1, 0, 'bell', 'rings at five'), (1, 1, 'bell', ''), (1, 2, 'a', 'x')]
>>> [desk.board(1), desk.board(0), desk.do("stop 0 3"), desk.world.acts[-1]]
[['a: x', 'bell: '], [], None, ('stop', 0, 3)]
>>> [act_line(("write", 1, "bell", "")), read_act("cut 12 0")]
['write 1 bell ', ('cut', 12, 0)]
>>> read_act("tick 01")
raises InvalidLine('tick 01')
>>> desk.board(0)
raises Down(0)
"""

KINDS = {"tick": "n", "write": "nct", "carry": "n", "drop": "n", "double": "n", "stop": "nn", "cut": "nn", "rise": "n"}
NUMBERS = [0, 1, 7, 16] + [10 ** figures - 1 for figures in range(1, 21)] + [10 ** 19]
TEXTS = ["", " ", "  ", "x", " x", "x ", "rings at five", "0", "a  b ", "~" * 40, " " * 40, "tick 2"]
ACTS = [(word, n) for word in ("tick", "carry", "drop", "double", "rise") for n in NUMBERS]
ACTS += [(word, n, m) for word in ("stop", "cut") for n in NUMBERS for m in NUMBERS]
ACTS += [("write", n, cell, text) for n in NUMBERS for cell in ("a", "bell", "eightlet") for text in TEXTS]


def is_act(value):
    """Whether a value is an act of any houses, by the words of point [163]."""
    if type(value) is not tuple or not value or type(value[0]) is not str or value[0] not in KINDS:
        return False
    judges = {"n": lambda item: is_int(item) and item >= 0, "c": is_cell, "t": is_text}
    return len(value) == 1 + len(KINDS[value[0]]) and all(judges[kind](item) for kind, item in zip(KINDS[value[0]], value[1:]))


def line_by_words(act):
    line = act[0]
    for item in act[1:]:
        line += f" {item}"
    return line


LINES = {line_by_words(act): act for act in ACTS}


class ActLines(unittest.TestCase):
    def test_examples_of_the_interface(self):
        run_examples(self, EXAMPLES)

    def test_acts_of_all_kinds_there_and_back(self):
        for act in ACTS:
            line = act_line(act)
            self.assertEqual(line, line_by_words(act))
            self.assertEqual(repr(read_act(line)), repr(act))

    def test_acts_with_one_thing_changed(self):
        values = values_of_all_kinds()
        for word, form in KINDS.items():
            act = next(act for act in ACTS if act[0] == word)
            for at in range(len(act)):
                for value in values:
                    near = act[:at] + (value,) + act[at + 1:]
                    if is_act(near):
                        self.assertEqual(read_act(act_line(near)), near)
                    else:
                        assert_invalid(self, InvalidAct, near, act_line, near)
            wrong = [act[:many] for many in range(len(act))] + [act + (0,), act + ("",), list(act), (act,), line_by_words(act), act[1:]]
            for near in wrong:
                assert_invalid(self, InvalidAct, near, act_line, near)

    def test_any_value(self):
        for value in values_of_all_kinds():
            if not is_act(value):
                assert_invalid(self, InvalidAct, value, act_line, value)
            assert_invalid(self, InvalidLine, value, read_act, value)

    def test_lines_with_one_sign_changed(self):
        signs = [chr(sign) for sign in range(32, 127)] + ["\n", "\t"]
        for line in ("tick 2", "write 2 bell rings at five", "write 0 a ", "carry 17", "stop 1 30", "cut 10 0", "rise 0", "double 3", "drop 9"):
            near = [line[:at] + line[at + 1:] for at in range(len(line))]
            near += [line[:at] + sign + line[at:] for at in range(len(line) + 1) for sign in signs]
            near += [line[:at] + sign + line[at + 1:] for at in range(len(line)) for sign in signs]
            for text in near:
                self.look_at(text)

    def look_at(self, text):
        """A line is read exactly if it is the line of some act; there is no other act to be told by it."""
        try:
            act = read_act(text)
        except InvalidLine as wrong:
            self.assertIs(wrong.given, text)
            self.assertNotIn(text, LINES)
            words = text.split(" ", 3)
            items = [words[0]] + [int(word) if word.isdigit() and str(int(word)) == word else word for word in words[1:3]] + words[3:]
            if len(items) == 4:
                items[2] = words[2]
            self.assertFalse(is_act(tuple(items)), text)
        else:
            self.assertTrue(is_act(act), text)
            self.assertEqual(line_by_words(act), text)

    def test_lines_that_are_none(self):
        wrong = ["", " ", "tick", "tick ", "tick  2", " tick 2", "tick 2 ", "tick 2 3", "tick 02", "tick +2", "tick -2", "tick 2\n", "Tick 2",
                 "TICK 2", "tick\t2", "tick 2.0", "tick two", "tick 0x2", "tick 1_0", "tock 2", "write 2 bell", "write 2", "write 2 Bell x",
                 "write 2 bell " + "x" * 41, "write 02 bell x", "write 2 ninelette x", "write 2  x", "write 2 bell x\n", "write 2 bell \t",
                 "stop 1", "stop 1 ", "stop 1 3 4", "stop 1  3", "stop 01 3", "stop 1 03", "stop 1 -3", "cut 1", "cut a 1", "carry", "carry 1 2",
                 "drop -1", "double 1 ", "rise", "rise 1 1", "make 0 bell x", "write\n2 bell x", "write 2 bell x\ntick 2"]
        for line in wrong:
            assert_invalid(self, InvalidLine, line, read_act, line)
            desk = Desk(row_tree(3))
            assert_invalid(self, InvalidLine, line, desk.do, line)
            self.assertEqual(desk.world.acts, [])


def state(world):
    houses = [world.house(h) for h in range(world.tree.houses)]
    return ([house and house_state(house) for house in houses], world.letters, world.acts, [world.disk(h).text for h in range(world.tree.houses)])


class Desks(unittest.TestCase):
    def test_a_desk_beside_the_same_acts_in_a_world(self):
        for number in range(40):
            draw = seeded(173, number)
            tree = drawn_tree(draw, draw.choice([1, 2, 3, 4, 5]))
            desk, world = Desk(tree), World(tree)
            kept = desk.world
            if draw.random() < 0.6:
                self.assertEqual(settle(desk.world), settle(world))
            for _ in range(120):
                act = drawn_act(draw, world, MOODS[number % len(MOODS)])
                if draw.random() < 0.2:
                    act = (act[0], draw.randrange(tree.houses)) + act[2:]
                try:
                    wanted = do(world, act)
                except UnsaidError as wrong:
                    assert_told(self, wrong, desk.do, act_line(act))
                else:
                    self.assertEqual(repr(desk.do(act_line(act))), repr(wanted))
                self.assertEqual(state(desk.world), state(world))
                self.assertIs(desk.world, kept)
                self.look_at_boards(desk)

    def look_at_boards(self, desk):
        for h in range(desk.world.tree.houses):
            house = desk.world.house(h)
            if house is None:
                assert_told(self, Down(h), desk.board, h)
            else:
                last = {line[2]: line[3] for line in house.book}
                self.assertEqual(desk.board(h), [cell + ": " + last[cell] for cell in sorted(last)])

    def test_lines_with_houses_that_are_none_of_the_tree(self):
        for tree in (Tree(1, []), row_tree(3), star_tree(16)):
            desk = Desk(tree)
            for act in ACTS:
                if act[0] not in ("carry", "drop", "double") and act[1] >= tree.houses:
                    line = act_line(act)
                    assert_invalid(self, InvalidLine, line, desk.do, line)
            for word in ("carry", "drop", "double"):
                for k in NUMBERS:
                    assert_told(self, NoLetter(k), desk.do, f"{word} {k}")
            self.assertEqual(desk.world.acts, [])

    def test_errors_of_acts(self):
        desk = Desk(row_tree(3))
        self.assertIsNone(desk.do("stop 2 0"))
        before = state(desk.world)
        for line, wrong in (("tick 2", Down(2)), ("write 2 bell x", Down(2)), ("stop 2 0", Down(2)), ("rise 1", Up(1)), ("cut 1 0", Up(1)),
                            ("carry 0", NoLetter(0)), ("drop 5", NoLetter(5)), ("double 0", NoLetter(0)), ("write 1 bell x", NotStanding("risen"))):
            assert_told(self, wrong, desk.do, line)
        for value in values_of_all_kinds():
            assert_invalid(self, InvalidLine, value, desk.do, value)
        self.assertEqual(state(desk.world), before)

    def test_boards(self):
        desk = Desk(row_tree(3))
        self.assertEqual([desk.board(h) for h in range(3)], [[], [], []])
        settle(desk.world)
        for line in ("write 1 gate  two ", "write 1 bell x", "write 1 aa 1: 2", "write 1 bell "):
            desk.do(line)
        board = ["aa: 1: 2", "bell: ", "gate:  two "]
        self.assertEqual([desk.board(h) for h in range(3)], [[], board, []])
        desk.board(1).clear()
        settle(desk.world)
        self.assertEqual([desk.board(h) for h in range(3)], [board] * 3)
        desk.do("stop 1 0")
        assert_told(self, Down(1), desk.board, 1)
        desk.do("cut 1 0")
        desk.do("rise 1")
        self.assertEqual(desk.board(1), [])
        settle(desk.world)
        self.assertEqual(desk.board(1), board)
        for value in not_houses(row_tree(3)):
            assert_invalid(self, InvalidHouse, value, desk.board, value)

    def test_two_desks_of_one_tree(self):
        tree = row_tree(3)
        one, other = Desk(tree), Desk(tree)
        self.assertIsNot(one.world, other.world)
        before = state(other.world)
        settle(one.world)
        one.do("write 0 bell x")
        self.assertEqual(state(other.world), before)
        self.assertEqual((one.board(0), other.board(0)), (["bell: x"], []))
        self.assertIs(one.world.tree, tree)


if __name__ == "__main__":
    unittest.main()
