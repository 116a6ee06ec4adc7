"""Point [132] and the interface under neverunsaid/roads.py."""

import random
import unittest

from helpers import (
    assert_invalid, assert_told, directed_roads, drawn_run, drawn_tree, is_int, naive_side, not_houses, row_tree,
    run_examples, snapshot, star_tree, values_of_all_kinds,
)
from neverunsaid.errors import InvalidCount, InvalidHouse, InvalidLines, NotARoad
from neverunsaid.roads import came_over, to_send
from neverunsaid.texts import is_line
from neverunsaid.trees import Tree

EXAMPLES = """
>>> from neverunsaid.letters import is_era, is_letter
>>> from neverunsaid.roads import came_over, to_send
>>> from neverunsaid.trees import Tree
>>> tree, x, z = Tree(3, [(0, 1), (1, 2)]), (0, 0, "bell", "rings"), (2, 0, "door", "")
>>> [came_over(tree, [x, z], 0, 1), came_over(tree, [x, z], 1, 2), came_over(tree, [x, z], 2, 1)]
[1, 1, 1]
>>> [to_send(tree, [z, x], 1, 2, 0), to_send(tree, [z, x], 1, 2, 1)]
[[(0, 0, 'bell', 'rings')], []]
>>> came_over(tree, [x], 0, 2)
raises NotARoad(0, 2)
"""

X, Z = (0, 0, "bell", "rings"), (2, 0, "door", "")
ROW = row_tree(3)


def lines_by_form(tree, value):
    return type(value) in (list, tuple) and all(is_line(line) and line[0] < tree.houses for line in value)


def sent_by_words(tree, lines, u, v):
    beyond = naive_side(tree, u, v)
    return [line for line in lines if line[0] in beyond]


def drawn_lines(draw, tree):
    """A list of any lines: equal ones, two unlike ones of one key and numbers in any order are among them."""
    lines = [(draw.randrange(tree.houses), draw.randrange(3), draw.choice("ab"), draw.choice(["", "x"])) for _ in range(draw.randrange(9))]
    lines += draw.choices(lines, k=draw.randrange(4)) if lines else []
    draw.shuffle(lines)
    return lines


class Point132(unittest.TestCase):
    def test_examples_of_the_interface(self):
        run_examples(self, EXAMPLES)

    def test_lines_under_way_for_the_books_of_plain_runs(self):
        draw = random.Random(132)
        under_way = 0
        for houses, lines, deeds in ((2, 9, 20), (5, 20, 90), (9, 30, 200), (16, 120, 1200)):
            for tree in (row_tree(houses), star_tree(houses), drawn_tree(draw, houses)):
                plain = drawn_run(draw, tree, lines, deeds)
                rows = plain.rows()
                for u, v in directed_roads(tree):
                    sent = to_send(tree, rows[u], u, v, came_over(tree, rows[v], u, v))
                    self.assertEqual(sent, list(plain.under_way(u, v)))
                    under_way += len(sent)
        self.assertGreater(under_way, 50)

    def test_any_lines_held_against_the_words(self):
        draw = random.Random(133)
        for _ in range(300):
            tree = drawn_tree(draw, draw.randrange(2, 8))
            lines = drawn_lines(draw, tree)
            before = snapshot(lines)
            for u, v in directed_roads(tree):
                wanted = sent_by_words(tree, lines, u, v)
                self.assertEqual(came_over(tree, lines, u, v), len(wanted))
                for count in list(range(len(wanted) + 3)) + [10 ** 20 - 1]:
                    sent = to_send(tree, lines, u, v, count)
                    self.assertIs(type(sent), list)
                    self.assertEqual(sent, wanted[count:])
            self.assertEqual(snapshot(lines), before)

    def test_equal_lines_and_unlike_ones_of_one_key_all_count(self):
        other = X[:2] + ("gate", "x")
        lines = [X, Z, X, other, X]
        self.assertEqual([came_over(ROW, lines, u, v) for u, v in directed_roads(ROW)], [4, 1, 4, 1])
        self.assertEqual([to_send(ROW, lines, 0, 1, count) for count in range(6)],
                         [[X, X, other, X], [X, other, X], [other, X], [X], [], []])
        self.assertEqual(to_send(ROW, lines, 2, 1, 0), [Z])

    def test_own_lines_of_a_house_are_of_its_side(self):
        line = (1, 0, "a", "")
        self.assertEqual([came_over(ROW, [line], u, v) for u, v in ((0, 1), (1, 0), (1, 2), (2, 1))], [0, 1, 1, 0])

    def test_no_lines(self):
        for lines in ([], ()):
            self.assertEqual((came_over(ROW, lines, 0, 1), to_send(ROW, lines, 0, 1, 0), to_send(ROW, lines, 0, 1, 5)), (0, [], []))

    def test_tuples_stand_for_lists_and_answers_are_new(self):
        lines = [X, Z, X]
        told = to_send(ROW, lines, 0, 1, 0)
        self.assertEqual(to_send(Tree(3, ((0, 1), (1, 2))), tuple(lines), 0, 1, 0), told)
        told.append(Z)
        self.assertEqual((to_send(ROW, lines, 0, 1, 0), lines), ([X, X], [X, Z, X]))
        every = to_send(ROW, [X, X], 0, 1, 0)
        self.assertIsNot(to_send(ROW, every, 0, 1, 0), every)
        lines.append(X)
        self.assertEqual((came_over(ROW, lines, 0, 1), to_send(ROW, lines, 0, 1, 2)), (3, [X]))


class Errors(unittest.TestCase):
    def calls(self, lines, u, v, count):
        return ((came_over, (ROW, lines, u, v)), (to_send, (ROW, lines, u, v, count)))

    def test_wrong_lines_come_first(self):
        for value in values_of_all_kinds():
            for lines in (value, [value], (X, value)):
                if not lines_by_form(ROW, lines):
                    for function, args in self.calls(lines, None, [], -1):
                        assert_invalid(self, InvalidLines, lines, function, *args)
                else:
                    self.assertEqual(came_over(ROW, lines, 1, 2), len(sent_by_words(ROW, lines, 1, 2)))

    def test_homes_that_are_no_houses_of_the_tree(self):
        lines = [X, (3, 0, "a", "")]
        for function, args in self.calls(lines, 0, 1, 0):
            assert_invalid(self, InvalidLines, lines, function, *args)
        self.assertEqual(came_over(row_tree(4), lines, 3, 2), 1)

    def test_wrong_houses_come_second_the_first_one_ahead(self):
        for value in not_houses(ROW):
            for function, args in self.calls([X], value, {}, -1):
                assert_invalid(self, InvalidHouse, value, function, *args)
            for function, args in self.calls([X], 0, value, -1):
                assert_invalid(self, InvalidHouse, value, function, *args)

    def test_houses_that_are_no_neighbours_come_third(self):
        for u in range(3):
            for v in range(3):
                if abs(u - v) != 1:
                    for function, args in self.calls([X], u, v, -1):
                        assert_told(self, NotARoad(u, v), function, *args)

    def test_a_wrong_count_comes_last(self):
        for value in values_of_all_kinds() + [-(10 ** 19), -1]:
            if not is_int(value) or value < 0:
                assert_invalid(self, InvalidCount, value, to_send, ROW, [X], 0, 1, value)
            else:
                self.assertEqual(to_send(ROW, [X], 0, 1, value), [X][value:])


if __name__ == "__main__":
    unittest.main()
