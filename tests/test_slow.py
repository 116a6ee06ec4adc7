"""Points [121], [122] and the interface under neverunsaid/slow.py."""

import itertools
import math
import random
import time
import unittest

from helpers import (
    assert_invalid, assert_told, directed_roads, drawn_tree, naive_side, not_houses, not_rows, row_tree, run_examples,
    snapshot, star_tree,
)
from neverunsaid.arrows import logs_fit
from neverunsaid.errors import InvalidHouse, InvalidRows, NoStanding, TooMany
from neverunsaid.held import held
from neverunsaid.slow import ahead_slow, held_slow, standings
from neverunsaid.standings import is_standing
from neverunsaid.sure import ahead
from neverunsaid.trees import Tree, neighbours
from search import (
    A, B, C, KNOWN, ROW, STAR, W, X, Z, ahead_by_search, all_reached, begin_with, drawn_logs, held_by_search,
    next_deeds, standings_from,
)

EXAMPLES = """
>>> from neverunsaid.slow import ahead_slow, held_slow, standings
>>> from neverunsaid.trees import Tree
>>> tree = Tree(2, [(0, 1)])
>>> x, z = (0, 0, "bell", ""), (1, 0, "door", "")
>>> standings(tree, [[x], [z, x]])
[(((0, 0, 'bell', ''),), ((1, 0, 'door', ''), (0, 0, 'bell', ''))), (((0, 0, 'bell', ''), (1, 0, 'door', '')), ((1, 0, 'door', ''), (0, 0, 'bell', '')))]
>>> [held_slow(tree, [[x], [z, x]]), ahead_slow(tree, [[x], [z, x]], 0), ahead_slow(tree, [[x], [z, x]], 1)]
[[[(0, 0)], [(0, 0), (1, 0)]], [((0, 0), (1, 0))], [((1, 0), (0, 0))]]
>>> [standings(tree, [[z, x], [x, z]]), standings(tree, [[], []]), held_slow(tree, [[], []])]
[[], [((), ())], [[], []]]
>>> held_slow(tree, [[z, x], [x, z]])
raises NoStanding
"""


def lines_that_count(logs):
    """The lines of the logs, or None if two are unlike or a lesser number is missing."""
    lines = sorted({line for log in logs for line in log})
    keys = [line[:2] for line in lines]
    whole = all((home, less) in keys for home, number in keys for less in range(number))
    return lines if len(set(keys)) == len(keys) and whole else None


def walk(tree, lines):
    """All standings with these lines, or None if they are more than 1000."""
    sides = {road: naive_side(tree, *road) for road in directed_roads(tree)}
    start = ((),) * tree.houses
    reached, fresh = {start}, [start]
    while fresh:
        for rows in next_deeds(tree, sides, fresh.pop(), lines):
            if rows not in reached:
                reached.add(rows)
                fresh.append(rows)
                if len(reached) > 1000:
                    return None
    return reached


def standings_of_one_line(tree, home, u=None):
    """How many standings with one line there are behind its making: each house has it or not, and then none beyond."""
    return math.prod(1 + standings_of_one_line(tree, v, home) for v in neighbours(tree, home) if v != u)


def hung(houses, parts):
    """A tree in which house 0 has rows of houses hung on it, some of them with further rows on their first house."""
    roads, count = [], 1
    for part in parts:
        first = count
        roads.append((0, first))
        count += 1
        for many in part:
            before = first
            for _ in range(many):
                roads.append((before, count))
                before, count = count, count + 1
    assert count == houses
    return Tree(houses, sorted(roads))


# A house with parts hung on it has the product of one more than each of their standings: 3 * 9 * 37 = 999, and so on.
JUST_1000 = hung(14, [[1], [1, 1, 1], [1, 1, 2, 2]])
JUST_1001 = hung(13, [[], [], [], [1, 1], [1, 1], [1, 1]])


class Point121(unittest.TestCase):
    def test_examples_of_the_interface(self):
        run_examples(self, EXAMPLES)

    def test_standings_held_against_an_own_walk(self):
        draw = random.Random(121)
        cases = list(KNOWN.values()) + [drawn_logs(draw, draw.choice([1, 2, 2, 3, 3, 4, 5]), 4) for _ in range(500)]
        many = few = none = 0
        for tree, logs in cases:
            lines = lines_that_count(logs)
            reached = set() if lines is None else walk(tree, lines)
            if reached is None:
                many += 1
                assert_told(self, TooMany(1001), standings, tree, logs)
                continue
            told = standings(tree, logs)
            self.assertIs(type(told), list)
            self.assertEqual(told, sorted(rows for rows in reached if begin_with(rows, logs)), (tree.line(), logs))
            self.assertEqual({type(rows) for rows in told} | {type(row) for rows in told for row in rows} | {tuple}, {tuple})
            self.assertIs(len(told) > 0, logs_fit(tree, logs))
            self.assertTrue(all(is_standing(tree, rows) for rows in told[:5]))
            self.assertEqual(told, standings_from(tree, logs) if lines is not None else [])
            few += len(told) > 1
            none += len(told) == 0
        self.assertTrue(many > 30 and few > 100 and none > 30, (many, few, none))

    def test_just_one_thousand_standings_and_just_one_more(self):
        line = (0, 0, "a", "")
        self.assertEqual([1 + standings_of_one_line(tree, 0) for tree in (JUST_1000, JUST_1001)], [1000, 1001])
        logs = [[] for _ in range(14)]
        logs[3] = [line]
        told = standings(JUST_1000, logs)
        self.assertEqual(told, sorted(rows for rows in walk(JUST_1000, [line]) if rows[3]))
        self.assertEqual([held_slow(JUST_1000, logs), ahead_slow(JUST_1000, logs, 2)], [held(JUST_1000, logs), []])
        logs = [[line]] + [[] for _ in range(12)]
        for function, further in ((standings, ()), (held_slow, ()), (ahead_slow, (0,))):
            assert_told(self, TooMany(1001), function, JUST_1001, logs, *further)

    def test_drawn_trees_around_one_thousand(self):
        draw = random.Random(122)
        both = [0, 0]
        for _ in range(60):
            tree = drawn_tree(draw, draw.randrange(12, 17))
            home = draw.randrange(tree.houses)
            logs = [[] for _ in range(tree.houses)]
            logs[draw.randrange(tree.houses)] = [(home, 0, "a", "")]
            count = 1 + standings_of_one_line(tree, home)
            both[count > 1000] += 1
            if count > 1000:
                assert_told(self, TooMany(1001), standings, tree, logs)
            else:
                self.assertEqual(standings(tree, logs), standings_from(tree, logs))
        self.assertTrue(min(both) > 3, both)

    def test_many_lines_of_one_home_in_few_houses(self):
        lines = [(0, number, "a", "x" * (number % 5)) for number in range(120)]
        self.assertEqual(standings(Tree(1, []), [lines]), [(tuple(lines),)])
        tree = row_tree(2)
        self.assertEqual(len(standings(tree, [lines[:43], []])), 44)
        self.assertEqual(len(standings(tree, [lines[:20], lines[:43]])), 1)
        self.assertEqual(standings(tree, [[], lines[:43]]), [(tuple(lines[:43]),) * 2])
        for logs in ([lines[:44], []], [[], lines[:44]], [lines, lines]):
            assert_told(self, TooMany(1001), standings, tree, logs)
        self.assertEqual(len(standings(row_tree(3), [lines[:16], [], []])), 17 * 18 // 2)

    def test_too_many_also_where_hardly_any_standing_begins_with_the_logs(self):
        lines = [(home, 0, "a", "") for home in range(5)]
        tree = star_tree(5)
        row = [lines[0]] + lines[1:]
        logs = [row] + [[line] + [other for other in row if other != line] for line in row[1:]]
        self.assertIs(logs_fit(tree, logs), True)
        self.assertEqual(len(standings_from(tree, logs)), 1)
        assert_told(self, TooMany(1001), standings, tree, logs)
        torn = [row[::-1]] + logs[1:]
        self.assertIs(logs_fit(tree, torn), False)
        assert_told(self, TooMany(1001), standings, tree, torn)

    def test_nothing_is_gone_through_where_lines_are_unlike_or_lesser_numbers_missing(self):
        tree = drawn_tree(random.Random(123), 16)
        lines = [(home, number, "a", "") for home in range(16) for number in range(7)]
        assert_told(self, TooMany(1001), standings, tree, [lines] * 16)
        for row, further in ((lines, [(3, 2, "a", "!")]), (lines, [(3, 2, "b", "")]), (lines[1:], []), (lines, [(4, 8, "a", "")]),
                             (lines, [(15, 10 ** 20 - 1, "a", "")]), ([line for line in lines if line[:2] != (9, 3)], [])):
            logs = [row] + [further] * 15
            self.assertEqual(standings(tree, logs), [])
            assert_told(self, NoStanding(), held_slow, tree, logs)
            assert_told(self, NoStanding(), ahead_slow, tree, logs, 15)
            self.assertIs(logs_fit(tree, logs), False)

    def test_a_lesser_number_may_stand_in_any_log(self):
        a, b = (0, 0, "a", ""), (0, 1, "a", "")
        tree = row_tree(2)
        self.assertEqual(standings(tree, [[a, b], [a]]), [((a, b), (a,)), ((a, b), (a, b))])
        self.assertEqual(standings(tree, [[a], [b]]), [])
        self.assertEqual(standings(tree, [[], [a, b]]), [((a, b), (a, b))])

    def test_one_hundred_and_twenty_lines_in_sixteen_houses_are_refused_soon(self):
        start = time.perf_counter()
        for tree in (row_tree(16), star_tree(16)):
            logs = [[(home, number, "a", "") for number in range(8)] for home in range(15)] + [[]]
            assert_told(self, TooMany(1001), standings, tree, logs)
        self.assertLess(time.perf_counter() - start, 10)


class Point122(unittest.TestCase):
    def test_equal_to_held_and_ahead_wherever_they_answer(self):
        draw = random.Random(124)
        cases = list(KNOWN.values()) + [drawn_logs(draw, draw.choice([1, 2, 2, 3, 3, 4, 5]), 4) for _ in range(400)]
        answered = 0
        for tree, logs in cases:
            lines = lines_that_count(logs)
            reached = set() if lines is None else walk(tree, lines)
            found = [rows for rows in reached or [] if begin_with(rows, logs)]
            wrong = TooMany(1001) if reached is None else None if found else NoStanding()
            if wrong is not None:
                assert_told(self, wrong, held_slow, tree, logs)
                assert_told(self, wrong, ahead_slow, tree, logs, 0)
                continue
            answered += 1
            told = held_slow(tree, logs)
            self.assertEqual({type(told)} | {type(keys) for keys in told}, {list})
            self.assertEqual(told, held(tree, logs))
            self.assertEqual(told, held_by_search(tree, logs, found))
            for house in range(tree.houses):
                pairs = ahead_slow(tree, logs, house)
                self.assertIs(type(pairs), list)
                self.assertEqual(pairs, ahead(tree, logs, house), (tree.line(), logs, house))
                self.assertEqual(pairs, ahead_by_search(logs, found, house))
        self.assertGreater(answered, 200)

    def test_known_logs(self):
        tree, logs = KNOWN["two arrows are needed"]
        self.assertEqual(held_slow(tree, logs), [[(1, 0), (3, 0)], [(1, 0), (3, 0)], [(1, 0), (2, 0)], [(3, 0)]])
        self.assertEqual(ahead_slow(tree, logs, 3), [((1, 0), (2, 0)), ((3, 0), (2, 0))])
        for name in ("three do not fit, each two do", "a ring of two", "a lesser number is missing", "two unlike lines of one key"):
            tree, logs = KNOWN[name]
            assert_told(self, NoStanding(), held_slow, tree, logs)
            assert_told(self, NoStanding(), ahead_slow, tree, logs, 0)

    def test_many_lines_of_one_home(self):
        lines = [(0, number, "a", "") for number in range(120)]
        keys = [line[:2] for line in lines]
        self.assertEqual(held_slow(Tree(1, []), [lines]), [keys])
        self.assertEqual(ahead_slow(Tree(1, []), [lines], 0), list(itertools.combinations(keys, 2)))
        tree = row_tree(2)
        logs = [lines[:9], lines[:43]]
        self.assertEqual([held_slow(tree, logs), ahead_slow(tree, logs, 0)], [held(tree, logs), ahead(tree, logs, 0)])

    def test_further_lines_change_nothing(self):
        draw = random.Random(125)
        for _ in range(60):
            tree, logs = drawn_logs(draw, draw.choice([1, 2, 3]), 2)
            lines = lines_that_count(logs)
            if lines is None or not standings(tree, logs):
                continue
            home = draw.randrange(tree.houses)
            number = len([line for line in lines if line[0] == home])
            more = sorted(rows for rows in all_reached(tree, lines + [(home, number, "z", "")]) if begin_with(rows, logs))
            self.assertEqual(held_slow(tree, logs), held_by_search(tree, logs, more))
            for house in range(tree.houses):
                self.assertEqual(ahead_slow(tree, logs, house), ahead_by_search(logs, more, house))


class Errors(unittest.TestCase):
    def test_wrong_logs_come_first(self):
        for tree in (Tree(1, []), row_tree(3)):
            for value in not_rows(tree):
                assert_invalid(self, InvalidRows, value, standings, tree, value)
                assert_invalid(self, InvalidRows, value, held_slow, tree, value)
                assert_invalid(self, InvalidRows, value, ahead_slow, tree, value, None)

    def test_a_wrong_house_comes_ahead_of_too_many_and_of_no_standing(self):
        many = [[(home, 0, "a", "") for home in range(5)] for _ in range(5)]
        none = [[(0, 1, "a", "")], [], [], [], []]
        for logs in ([[]] * 5, many, none):
            for value in not_houses(star_tree(5)):
                assert_invalid(self, InvalidHouse, value, ahead_slow, star_tree(5), logs, value)
        assert_told(self, TooMany(1001), ahead_slow, star_tree(5), many, 0)
        assert_told(self, NoStanding(), ahead_slow, star_tree(5), none, 0)

    def test_too_many_comes_ahead_of_no_standing(self):
        logs = [[(home, 0, "a", "") for home in order] for order in ([0, 1, 2, 3, 4], [4, 3, 2, 1, 0], [1, 0], [2], [3])]
        self.assertIs(logs_fit(star_tree(5), logs), False)
        for function, further in ((standings, ()), (held_slow, ()), (ahead_slow, (4,))):
            assert_told(self, TooMany(1001), function, star_tree(5), logs, *further)


class AnyAnswer(unittest.TestCase):
    """Tuples for lists, equal trees, new lists, nothing changed and nothing kept."""

    def test_equal_answers_for_lists_tuples_and_equal_trees(self):
        for name in ("two arrows are needed", "the one between lost its log", "nothing lost", "all lost", "one house"):
            tree, logs = KNOWN[name]
            before = snapshot(logs)
            answers = []
            for same in (logs, tuple(tuple(log) for log in logs), [tuple(log) for log in logs]):
                again = Tree(tree.houses, tree.roads)
                answers.append((standings(again, same), held_slow(again, same), ahead_slow(again, same, 0)))
            self.assertEqual(answers, [answers[0]] * 3)
            self.assertEqual(snapshot(logs), before)

    def test_the_same_list_mended_and_passed_again(self):
        logs = [[A], [], []]
        first = standings(ROW, logs)
        kept = list(first)
        logs[0].append(C)
        self.assertEqual([held_slow(ROW, logs), ahead_slow(ROW, logs, 2)], [[[(0, 0), (0, 1)], [], []], [((0, 0), (0, 1))]])
        logs[2] += [B]
        self.assertEqual(held_slow(ROW, logs)[2], [(2, 0)])
        del logs[0][1:], logs[2][:]
        self.assertEqual((standings(ROW, logs), first), (kept, kept))
        first.clear()
        told = held_slow(ROW, logs)
        for keys in told:
            keys.append(None)
        self.assertEqual((standings(ROW, logs), held_slow(ROW, logs)), (kept, [[(0, 0)], [], []]))
        self.assertEqual(len({id(keys) for keys in held_slow(STAR, [[], [X], [Z], [W]])}), 4)


if __name__ == "__main__":
    unittest.main()
