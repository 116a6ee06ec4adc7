"""Points [7], [9] (its third statement), [101], [102], [103] and the interface under neverunsaid/held.py."""

import itertools
import random
import time
import unittest

from helpers import (
    assert_invalid, assert_told, drawn_run, drawn_tree, naive_way, not_houses, not_keys, not_rows, row_tree, run_examples,
    snapshot, star_tree, values_of_all_kinds,
)
from neverunsaid.arrows import is_picture
from neverunsaid.errors import DoNotFit, Held, InvalidHouse, InvalidKey, InvalidRows, NotHeld
from neverunsaid.held import held, is_why_held, keeps_all, standing_lacking, why_held
from neverunsaid.standings import is_standing
from neverunsaid.sure import ahead
from neverunsaid.trees import Tree
from search import (
    A, B, C, KNOWN, ROW, STAR, X, Z, begin_with, cut, fitting_cases, held_by_search, keys_in, keys_of_logs, small_cases,
)

EXAMPLES = """
>>> from neverunsaid.held import held, is_why_held, keeps_all, standing_lacking, why_held
>>> from neverunsaid.trees import Tree
>>> tree = Tree(4, [(0, 1), (0, 2), (0, 3)])
>>> x, z, w = (1, 0, "bell", "rings"), (2, 0, "door", ""), (3, 0, "bell", "")
>>> logs = [[], [x, w], [z, x], []]
>>> held(tree, logs)
[[(1, 0), (3, 0)], [(1, 0), (3, 0)], [(1, 0), (2, 0)], [(3, 0)]]
>>> [why_held(tree, logs, 0, (1, 0)), why_held(tree, logs, 3, (3, 0)), keeps_all(tree, logs)]
[2, 1, [1, 2]]
>>> [is_why_held(tree, logs, 0, (1, 0), 2), is_why_held(tree, logs, 0, (1, 0), 1)]
[True, False]
>>> rows = standing_lacking(tree, logs, 3, (1, 0))
>>> [rows[1][:2] == [x, w], rows[2][:2] == [z, x], x in rows[3]]
[True, True, False]
>>> why_held(tree, logs, 0, (2, 0))
raises NotHeld((2, 0))
>>> standing_lacking(tree, logs, 0, (1, 0))
raises Held((1, 0))
"""

CASES = fitting_cases(101, 700)


def holders_by_words(tree, logs, house, key):
    return [holder for holder, log in enumerate(logs)
            if key in keys_in(log) and house in naive_way(tree, key[0], holder)]


class StatementThree(unittest.TestCase):
    """What a house surely held is what its book has in all standings that begin with the logs."""

    def test_held_against_a_search_through_all_standings(self):
        for tree, logs, found in CASES:
            told = held(tree, logs)
            self.assertEqual({type(told)} | {type(keys) for keys in told}, {list})
            self.assertEqual(told, held_by_search(tree, logs, found), (tree.line(), logs))

    def test_held_against_the_words(self):
        draw = random.Random(102)
        for houses, lines, deeds in ((2, 8, 30), (7, 20, 150), (16, 40, 500)):
            for tree in (row_tree(houses), star_tree(houses, 1), drawn_tree(draw, houses)):
                logs = cut(draw, drawn_run(draw, tree, lines, deeds).rows())
                wanted = [[key for key in keys_of_logs(logs) if holders_by_words(tree, logs, house, key)] for house in range(houses)]
                self.assertEqual(held(tree, logs), wanted)

    def test_all_that_is_surely_ahead_of_a_held_line_is_held(self):
        for tree, logs, _ in CASES[:300]:
            for house, keys in enumerate(held(tree, logs)):
                self.assertEqual([(x, z) for x, z in ahead(tree, logs, house) if z in keys and x not in keys], [])


class Point101(unittest.TestCase):
    def test_examples_of_the_interface(self):
        run_examples(self, EXAMPLES)

    def test_known_logs(self):
        a, b, c = (0, 0), (2, 0), (0, 1)
        wanted = {
            "the one between lost its log": [[a, c], [a], [a, b]],
            "all lost but one": [[a, c], [a, c], [a, c, b]],
            "the home lost its log": [[a], [a, b], [b]],
            "nothing lost": [[a, c, b]] * 3,
            "all lost": [[], [], []],
            "one house": [[a, c]],
        }
        for name, keys in wanted.items():
            tree, logs = KNOWN[name]
            self.assertEqual(held(tree, logs), [sorted(row) for row in keys], name)


class Point102(unittest.TestCase):
    def test_reasons_held_against_the_words(self):
        many = 0
        for tree, logs, _ in CASES[:300]:
            for house, key in itertools.product(range(tree.houses), keys_of_logs(logs)):
                holders = holders_by_words(tree, logs, house, key)
                if holders:
                    self.assertIn(why_held(tree, logs, house, key), holders)
                else:
                    assert_told(self, NotHeld(key), why_held, tree, logs, house, key)
                for value in range(-2, tree.houses + 2):
                    self.assertIs(is_why_held(tree, logs, house, key, value), value in holders)
                    many += value in holders
        self.assertGreater(many, 1000)

    def test_a_way_that_goes_over_the_house_and_one_that_does_not(self):
        tree = row_tree(4)
        logs = [[], [], [B, A], []]
        self.assertEqual([why_held(tree, logs, house, (0, 0)) for house in (0, 1, 2)], [2, 2, 2])
        self.assertEqual(why_held(tree, logs, 2, (2, 0)), 2)
        for house, key in ((3, (0, 0)), (0, (2, 0)), (1, (2, 0)), (3, (2, 0))):
            assert_told(self, NotHeld(key), why_held, tree, logs, house, key)
            self.assertEqual([is_why_held(tree, logs, house, key, value) for value in range(4)], [False] * 4)

    def test_any_value_is_judged(self):
        logs = [[A, C], [A], [A, B]]
        for house, key in itertools.product(range(3), keys_of_logs(logs)):
            holders = [repr(holder) for holder in holders_by_words(ROW, logs, house, key)]
            for value in values_of_all_kinds():
                before = snapshot(value)
                self.assertIs(is_why_held(ROW, logs, house, key, value), repr(value) in holders, value)
                self.assertEqual(snapshot(value), before)
        self.assertEqual([is_why_held(ROW, logs, 0, (0, 0), value) for value in (True, False, [0], "0", None)], [False] * 5)


class Point103(unittest.TestCase):
    def test_standings_lacking_held_against_the_search(self):
        many = 0
        for tree, logs, found in CASES:
            sure = held_by_search(tree, logs, found)
            for house, key in itertools.product(range(tree.houses), keys_of_logs(logs)):
                if key in sure[house]:
                    assert_told(self, Held(key), standing_lacking, tree, logs, house, key)
                else:
                    rows = standing_lacking(tree, logs, house, key)
                    self.assertEqual({type(rows)} | {type(row) for row in rows}, {list})
                    self.assertIn(tuple(tuple(row) for row in rows), found)
                    self.assertNotIn(key, keys_in(rows[house]))
                    many += 1
        self.assertGreater(many, 400)

    def test_keeps_all_held_against_the_search(self):
        kept = 0
        for tree, logs, found in CASES:
            sure = held_by_search(tree, logs, found)
            wanted = [house for house, log in enumerate(logs) if sorted(keys_in(log)) == sure[house]]
            self.assertEqual(keeps_all(tree, logs), wanted)
            kept += len(wanted) not in (0, tree.houses)
        self.assertGreater(kept, 100)

    def test_a_house_that_lost_nothing_keeps_all(self):
        draw = random.Random(103)
        for houses, lines, deeds in ((3, 10, 40), (8, 30, 200), (16, 60, 700)):
            for tree in (row_tree(houses), star_tree(houses), drawn_tree(draw, houses)):
                rows = drawn_run(draw, tree, lines, deeds).rows()
                for logs in (rows, cut(draw, rows), cut(draw, rows, 0.1, 0.8)):
                    kept = keeps_all(tree, logs)
                    self.assertEqual([house for house in range(houses) if logs[house] == rows[house] and house not in kept], [])

    def test_a_house_that_lost_its_end(self):
        for logs, wanted in (([[A, C], [A], []], [0, 1, 2]), ([[A], [A, C], []], [1, 2]), ([[], [A, C], [A]], [1, 2]),
                             ([[], [], [B, A]], [2]), ([[], [A, C], [A, C]], [1, 2]), ([[A, C], [], [A, C]], [0, 2]), ([[], [], []], [0, 1, 2])):
            self.assertEqual(keeps_all(ROW, logs), wanted, logs)

    def test_the_very_key_is_in_the_error(self):
        logs = [[A], [], []]
        key = tuple([0, 0])
        for error, function, house in ((Held, standing_lacking, 0), (NotHeld, why_held, 1)):
            with self.assertRaises(error) as caught:
                function(ROW, logs, house, key)
            self.assertIs(caught.exception.key, key)


class Errors(unittest.TestCase):
    def calls(self, tree, logs, house, key):
        """For each function of the stage, its arguments."""
        for function in (why_held, standing_lacking):
            yield function, (tree, logs, house, key)
        yield is_why_held, (tree, logs, house, key, None)

    def test_wrong_logs_come_first(self):
        for tree in (Tree(1, []), row_tree(3)):
            for value in not_rows(tree):
                for function, args in self.calls(tree, value, None, []):
                    assert_invalid(self, InvalidRows, value, function, *args)
                assert_invalid(self, InvalidRows, value, held, tree, value)
                assert_invalid(self, InvalidRows, value, keeps_all, tree, value)

    def test_logs_that_do_not_fit_come_second_with_a_right_picture(self):
        many = 0
        for tree, logs, found in small_cases(101, 700):
            if not found:
                many += 1
                for function, args in list(self.calls(tree, logs, None, [])) + [(held, (tree, logs)), (keeps_all, (tree, logs))]:
                    with self.assertRaises(DoNotFit) as caught:
                        function(*args)
                    self.assertIs(is_picture(tree, logs, caught.exception.picture), True)
        self.assertGreater(many, 60)

    def test_wrong_houses_come_third_and_wrong_keys_fourth(self):
        logs = [[A, C], [B, A], []]
        for value in not_houses(ROW):
            for function, args in self.calls(ROW, logs, value, []):
                assert_invalid(self, InvalidHouse, value, function, *args)
        for value in not_keys(logs):
            for function, args in self.calls(ROW, logs, 1, value):
                assert_invalid(self, InvalidKey, value, function, *args)
        for key in ((0, 2), (1, 0), (2, 1), (9, 0)):
            for function, args in self.calls(ROW, logs, 2, key):
                assert_invalid(self, InvalidKey, key, function, *args)


class Large(unittest.TestCase):
    def test_sixteen_houses_and_one_hundred_and_twenty_lines(self):
        draw = random.Random(104)
        for tree in (row_tree(16), star_tree(16, 5), drawn_tree(draw, 16)):
            rows = drawn_run(draw, tree, 120, 1500).rows()
            for logs in (rows, cut(draw, rows, 0.2, 0.2), cut(draw, rows, 0.3, 0.7)):
                start = time.perf_counter()
                sure = held(tree, logs)
                for key in draw.sample(keys_of_logs(logs), 5):
                    for house in draw.sample(range(16), 3):
                        if key in sure[house]:
                            self.assertIs(is_why_held(tree, logs, house, key, why_held(tree, logs, house, key)), True)
                            continue
                        told = standing_lacking(tree, logs, house, key)
                        self.assertTrue(is_standing(tree, told) and begin_with(told, logs))
                        self.assertNotIn(key, keys_in(told[house]))
                        self.assertLessEqual({line for row in told for line in row}, {line for log in logs for line in log})
                self.assertLess(time.perf_counter() - start, 30)

    def test_twenty_four_lines_of_one_home_whose_log_is_lost(self):
        tree = row_tree(16)
        lines = [(4, number, "a", "") for number in range(24)]
        logs = [[] for _ in range(16)]
        logs[11], logs[2] = lines, lines[:7]
        keys = keys_in(lines)
        wanted = [keys if 4 <= house <= 11 else keys[:7] if house in (2, 3) else [] for house in range(16)]
        self.assertEqual(held(tree, logs), wanted)
        self.assertEqual(keeps_all(tree, logs), [0, 1, 2, 11, 12, 13, 14, 15])


class AnyAnswer(unittest.TestCase):
    """Point [10]: equal answers for equal arguments, new lists, nothing changed and nothing kept."""

    def answers(self, tree, logs):
        found = [held(tree, logs), keeps_all(tree, logs)]
        for house, key in itertools.product(range(tree.houses), keys_of_logs(logs)):
            found.append((why_held if key in found[0][house] else standing_lacking)(tree, logs, house, key))
        return found

    def test_equal_answers_for_lists_tuples_and_equal_trees(self):
        for tree, logs, _ in CASES[:120]:
            before = snapshot(logs)
            told = self.answers(tree, logs)
            self.assertEqual(self.answers(Tree(tree.houses, tree.roads), tuple(tuple(log) for log in logs)), told)
            self.assertEqual(self.answers(tree, [tuple(log) for log in logs]), told)
            self.assertEqual(snapshot(logs), before)

    def test_the_same_list_mended_and_passed_again(self):
        logs = [[], [X], [], []]
        told = held(STAR, logs)
        self.assertEqual((told, keeps_all(STAR, logs)), ([[], [(1, 0)], [], []], [0, 1, 2, 3]))
        logs[3] += [X, Z]
        self.assertEqual(held(STAR, logs), [[(1, 0), (2, 0)], [(1, 0)], [(2, 0)], [(1, 0), (2, 0)]])
        self.assertEqual(keeps_all(STAR, logs), [1, 3])
        self.assertEqual(told, [[], [(1, 0)], [], []])
        logs[3].clear()
        told[0].append((1, 0))
        self.assertEqual(held(STAR, logs), [[], [(1, 0)], [], []])
        self.assertEqual(len({id(row) for row in held(STAR, logs)}), 4)
        rows = standing_lacking(STAR, logs, 0, (1, 0))
        rows[1].clear()
        self.assertEqual((logs, standing_lacking(STAR, logs, 0, (1, 0))), ([[], [X], [], []], [[], [X], [], []]))


if __name__ == "__main__":
    unittest.main()
