"""Points [7], [9] (its second statement), [91], [92], [93] and the interface under neverunsaid/sure.py."""

import itertools
import random
import time
import unittest

from helpers import (
    assert_invalid, assert_told, drawn_run, drawn_tree, naive_way, not_houses, not_keys, not_rows, row_tree, run_examples,
    snapshot, star_tree, values_of_all_kinds,
)
from neverunsaid.arrows import is_picture
from neverunsaid.errors import DoNotFit, InvalidHouse, InvalidKey, InvalidRows, NotAhead, SameKey, SurelyAhead
from neverunsaid.standings import is_standing
from neverunsaid.sure import ahead, is_ahead, is_paper, standing_without, why_ahead
from neverunsaid.trees import Tree
from search import (
    A, B, C, KNOWN, ROW, STAR, W, X, Z, ahead_by_search, begin_with, cut, fitting_cases, keys_in, keys_of_logs,
    papers_by_words, small_cases,
)

EXAMPLES = """
>>> from neverunsaid.sure import ahead, is_ahead, is_paper, standing_without, why_ahead
>>> from neverunsaid.trees import Tree
>>> tree = Tree(4, [(0, 1), (0, 2), (0, 3)])
>>> x, z, w = (1, 0, "bell", "rings"), (2, 0, "door", ""), (3, 0, "bell", "")
>>> logs = [[], [x, w], [z, x], []]
>>> ahead(tree, logs, 0)
[((1, 0), (2, 0)), ((1, 0), (3, 0)), ((3, 0), (2, 0))]
>>> [ahead(tree, logs, 2), ahead(tree, logs, 3)]
[[((1, 0), (3, 0)), ((2, 0), (1, 0)), ((2, 0), (3, 0))], [((1, 0), (2, 0)), ((3, 0), (2, 0))]]
>>> why_ahead(tree, logs, 3, (1, 0), (2, 0))
('two', 0, (2, 2), (3, 0), (1, 2))
>>> paper = ("two", 0, (2, 2), (3, 0), (1, 2))
>>> [is_paper(tree, logs, 1, (1, 0), (2, 0), paper), is_paper(tree, logs, 2, (1, 0), (2, 0), paper)]
[True, False]
>>> [is_ahead(tree, logs, 3, (1, 0), (3, 0)), is_ahead(tree, logs, 3, (3, 0), (1, 0))]
[False, False]
>>> rows = standing_without(tree, logs, 3, (1, 0), (3, 0))
>>> [rows[1][:2] == [x, w], rows[2][:2] == [z, x], [line for line in rows[3] if line in [x, w]][0] == w]
[True, True, True]
>>> why_ahead(tree, logs, 2, (1, 0), (2, 0))
raises NotAhead((1, 0), (2, 0))
"""

CASES = fitting_cases(91, 600)
TWO_LOGS = KNOWN["two arrows are needed"][1]


def all_asked(cases):
    """All that can be asked in cases: the tree, the logs, the standings, the house and two keys."""
    for tree, logs, found in cases:
        keys = keys_of_logs(logs)
        for house, x, z in itertools.product(range(tree.houses), keys, keys):
            yield tree, logs, found, house, x, z


class StatementTwo(unittest.TestCase):
    """Being surely ahead, as arrows tell it, is being ahead in all standings that begin with the logs."""

    def test_ahead_at_each_house_held_against_a_search_through_all_standings(self):
        many = 0
        for tree, logs, found in CASES:
            for house in range(tree.houses):
                told = ahead(tree, logs, house)
                self.assertIs(type(told), list)
                self.assertEqual(told, ahead_by_search(logs, found, house), (tree.line(), logs, house))
                many += len(told)
        self.assertGreater(many, 1000)

    def test_there_is_a_paper_exactly_if_the_search_tells_so(self):
        forms = {}
        for tree, logs, found in CASES[:250]:
            for house in range(tree.houses):
                sure = ahead_by_search(logs, found, house)
                for x, z in itertools.product(keys_of_logs(logs), repeat=2):
                    papers = papers_by_words(tree, logs, house, x, z)
                    self.assertIs(len(papers) > 0, (x, z) in sure)
                    for paper in papers[:1]:
                        forms[paper[0]] = forms.get(paper[0], 0) + 1
        self.assertEqual(set(forms), {"own", "one", "two"})

    def test_it_is_an_order(self):
        draw = random.Random(92)
        for houses, lines, deeds in ((3, 9, 40), (6, 20, 120), (16, 40, 500)):
            for tree in (row_tree(houses), star_tree(houses), drawn_tree(draw, houses)):
                logs = cut(draw, drawn_run(draw, tree, lines, deeds).rows())
                for house in range(houses):
                    told = set(ahead(tree, logs, house))
                    self.assertFalse([pair for pair in told if pair[::-1] in told])
                    behind = {}
                    for x, z in told:
                        behind.setdefault(x, []).append(z)
                    for x, w in told:
                        self.assertTrue(all((x, z) in told for z in behind.get(w, [])))


class Point91(unittest.TestCase):
    def test_examples_of_the_interface(self):
        run_examples(self, EXAMPLES)

    def test_is_ahead_tells_whether_the_pair_is_in_the_list(self):
        for tree, logs, _, house, x, z in all_asked(CASES[:300]):
            self.assertIs(is_ahead(tree, logs, house, x, z), (x, z) in ahead(tree, logs, house))

    def test_two_arrows_where_no_single_one_tells(self):
        x, z, w = (1, 0), (2, 0), (3, 0)
        for house, wanted in ((0, True), (1, True), (2, False), (3, True)):
            self.assertIs(is_ahead(STAR, TWO_LOGS, house, x, z), wanted)
        self.assertEqual(why_ahead(STAR, TWO_LOGS, 0, x, z), ("two", 0, (2, 2), w, (1, 2)))
        self.assertEqual(papers_by_words(STAR, TWO_LOGS, 3, x, z), [("two", 0, (2, 2), w, (1, 2))])

    def test_a_house_that_lost_its_log_between_others(self):
        tree, logs = KNOWN["the one between lost its log"]
        self.assertEqual(ahead(tree, logs, 1), [((0, 0), (0, 1)), ((0, 0), (2, 0))])
        logs = [[A], [], [B]]
        self.assertEqual([ahead(ROW, logs, house) for house in range(3)], [[((0, 0), (2, 0))], [], [((2, 0), (0, 0))]])

    def test_all_lost_but_one_nothing_lost_and_all_lost(self):
        tree, logs = KNOWN["all lost but one"]
        order = [((0, 0), (0, 1)), ((0, 0), (2, 0)), ((2, 0), (0, 1))]
        self.assertEqual(ahead(tree, logs, 2), order)
        self.assertEqual([ahead(tree, logs, house) for house in (0, 1)], [[((0, 0), (0, 1)), ((0, 0), (2, 0))]] * 2)
        tree, logs = KNOWN["nothing lost"]
        for house, log in enumerate(logs):
            wanted = [(x[:2], z[:2]) for at, z in enumerate(log) for x in log[:at]]
            self.assertEqual(ahead(tree, logs, house), sorted(wanted))
        self.assertEqual([ahead(ROW, [[], [], []], house) for house in range(3)], [[], [], []])

    def test_one_key_is_not_ahead_of_itself(self):
        for tree, logs, _, house, x, z in all_asked(CASES[:200]):
            if x == z:
                self.assertIs(is_ahead(tree, logs, house, x, z), False)

    def test_lines_of_one_home_are_ahead_by_their_numbers_at_every_house(self):
        lines = [(0, number, "a", "") for number in range(24)]
        tree = row_tree(16)
        logs = [lines] + [[] for _ in range(15)]
        wanted = [((0, one), (0, two)) for one in range(24) for two in range(one + 1, 24)]
        self.assertEqual([ahead(tree, logs, house) for house in (0, 8, 15)], [wanted] * 3)
        self.assertEqual([is_ahead(tree, logs, 15, (0, one), (0, 9)) for one in range(24)], [one < 9 for one in range(24)])


class Point92(unittest.TestCase):
    def test_papers_held_against_the_words(self):
        forms = {}
        for tree, logs, found, house, x, z in all_asked(CASES[:180]):
            papers = papers_by_words(tree, logs, house, x, z)
            if papers:
                told = why_ahead(tree, logs, house, x, z)
                self.assertIn(told, papers)
                forms[told[0]] = forms.get(told[0], 0) + 1
            elif x != z:
                assert_told(self, NotAhead(x, z), why_ahead, tree, logs, house, x, z)
            else:
                assert_told(self, NotAhead(x, x), why_ahead, tree, logs, house, x, z)
            for paper in papers:
                self.assertIs(is_paper(tree, logs, house, x, z, paper), True)
        self.assertEqual(set(forms), {"own", "one", "two"})

    def test_all_tuples_that_could_be_papers(self):
        two = KNOWN["two arrows are needed"]
        for tree, logs in (two, KNOWN["the one between lost its log"], KNOWN["three houses with turned logs that fit"]):
            houses = range(tree.houses + 1)
            borders = [(house, many) for house in houses[:-1] for many in range(len(logs[house]) + 2)]
            keys = keys_of_logs(logs)
            forms = [("own",), ("own", 0), ("one",), ("two",), ()] + [("one", q, border) for q in houses for border in borders]
            forms += [("two", q, one, w, other) for q in houses for one in borders for w in keys + [(0, 7)] for other in borders]
            for house in range(tree.houses):
                for x, z in itertools.permutations(keys, 2):
                    papers = set(papers_by_words(tree, logs, house, x, z))
                    for form in forms[::1 if (x, z) == ((1, 0), (2, 0)) else 7]:
                        self.assertIs(is_paper(tree, logs, house, x, z, form), form in papers, (house, x, z, form))

    def test_papers_at_houses_beside_the_way_are_none(self):
        many = 0
        for tree, logs, _, house, x, z in all_asked(CASES[:200]):
            right = papers_by_words(tree, logs, house, x, z)
            for other in range(tree.houses):
                for paper in papers_by_words(tree, logs, other, x, z):
                    if paper[0] != "own" and paper[1] not in naive_way(tree, z[0], house):
                        self.assertIs(is_paper(tree, logs, house, x, z, paper), False)
                        many += paper not in right
        self.assertGreater(many, 200)
        paper = ("two", 0, (2, 2), (3, 0), (1, 2))
        self.assertEqual([is_paper(STAR, TWO_LOGS, house, (1, 0), (2, 0), paper) for house in range(4)], [True, True, False, True])
        paper = ("one", 1, (1, 1))
        self.assertEqual([is_paper(STAR, TWO_LOGS, house, (1, 0), (3, 0), paper) for house in range(4)], [False, True, False, False])

    def test_any_value_is_judged_as_a_paper(self):
        asked = [(STAR, TWO_LOGS, 3, (1, 0), (2, 0)), (STAR, TWO_LOGS, 0, (1, 0), (3, 0)), (ROW, [[A, C], [], []], 2, (0, 0), (0, 1)),
                 (STAR, TWO_LOGS, 0, (1, 0), (1, 0))]
        for tree, logs, house, x, z in asked:
            papers = papers_by_words(tree, logs, house, x, z)
            reprs = [repr(paper) for paper in papers]
            for value in values_of_all_kinds():
                before = snapshot(value)
                self.assertIs(is_paper(tree, logs, house, x, z, value), repr(value) in reprs, value)
                self.assertEqual(snapshot(value), before)
                for paper in papers[:3]:
                    for at in range(len(paper)):
                        near = paper[:at] + (value,) + paper[at + 1:]
                        self.assertIs(is_paper(tree, logs, house, x, z, near), repr(near) in reprs, near)
                        if isinstance(paper[at], tuple):
                            for item in ((value, paper[at][1]), (paper[at][0], value)):
                                near = paper[:at] + (item,) + paper[at + 1:]
                                self.assertIs(is_paper(tree, logs, house, x, z, near), repr(near) in reprs, near)

    def test_lists_and_flags_in_papers_are_wrong(self):
        x, z = (1, 0), (2, 0)
        right = ("two", 0, (2, 2), (3, 0), (1, 2))
        self.assertIs(is_paper(STAR, TWO_LOGS, 0, x, z, right), True)
        for wrong in (list(right), ("two", False) + right[2:], right[:2] + ([2, 2],) + right[3:], right[:3] + ([3, 0], (1, 2)),
                      right[:4] + ([1, 2],), right[:3] + ((3, False), (1, 2)), right + (0,), right[:4], ("one",) + right[1:],
                      right[:4] + ((True, 2),), right[:2] + ((2, 1),) + right[3:], right[:3] + ((1, 0), (1, 2)),
                      right[:3] + ((2, 0), (1, 2)), right[:3] + ((9, 9), (1, 2)), right[:2] + ((2, 10 ** 19),) + right[3:],
                      ("two", 0, (1, 2), (3, 0), (2, 2)), ("two", -1) + right[2:], ("two", 10 ** 19) + right[2:], ("own",)):
            self.assertIs(is_paper(STAR, TWO_LOGS, 0, x, z, wrong), False, wrong)
        self.assertIs(is_paper(STAR, TWO_LOGS, 1, x, (3, 0), ("one", True, (1, 1))), False)
        self.assertIs(is_paper(STAR, TWO_LOGS, 1, x, (3, 0), ("one", 1, (1, True))), False)
        self.assertIs(is_paper(STAR, TWO_LOGS, 1, x, (3, 0), ("one", 1, (1, 1))), True)

    def test_papers_with_an_item_more_or_less(self):
        asked = [(STAR, TWO_LOGS, 3, (1, 0), (2, 0)), (STAR, TWO_LOGS, 1, (1, 0), (3, 0)), (ROW, [[A, C], [], []], 2, (0, 0), (0, 1))]
        for tree, logs, house, x, z in asked:
            papers = papers_by_words(tree, logs, house, x, z)
            for paper in papers:
                for near in [paper[:many] for many in range(len(paper))] + [paper + (item,) for item in (0, paper[-1], x, None)]:
                    self.assertIs(is_paper(tree, logs, house, x, z, near), near in papers, near)
                for at, item in enumerate(paper):
                    if isinstance(item, tuple):
                        for wrong in (item[:1], item + (0,), (), item[::-1]):
                            near = paper[:at] + (wrong,) + paper[at + 1:]
                            self.assertIs(is_paper(tree, logs, house, x, z, near), near in papers, near)


class Point93(unittest.TestCase):
    def test_standings_without_held_against_the_search(self):
        many = 0
        for tree, logs, found, house, x, z in all_asked(CASES):
            if x != z and not is_ahead(tree, logs, house, x, z):
                rows = standing_without(tree, logs, house, x, z)
                self.assertEqual({type(rows)} | {type(row) for row in rows}, {list})
                self.assertIn(tuple(tuple(row) for row in rows), found)
                keys = keys_in(rows[house])
                self.assertIn(z, keys)
                self.assertNotIn(x, keys[:keys.index(z)])
                many += 1
        self.assertGreater(many, 2000)

    def test_what_is_surely_ahead_and_one_key(self):
        for tree, logs, _, house, x, z in all_asked(CASES[:150]):
            if x == z:
                assert_told(self, SameKey(x), standing_without, tree, logs, house, x, z)
            elif is_ahead(tree, logs, house, x, z):
                assert_told(self, SurelyAhead(x, z), standing_without, tree, logs, house, x, z)
        x, z = tuple([0, 0]), tuple([0, 1])
        with self.assertRaises(SurelyAhead) as caught:
            standing_without(ROW, [[A, C], [], []], 0, x, z)
        self.assertTrue(caught.exception.x is x and caught.exception.z is z)
        with self.assertRaises(NotAhead) as caught:
            why_ahead(ROW, [[A, C], [], []], 0, z, x)
        self.assertTrue(caught.exception.x is z and caught.exception.z is x)


class Errors(unittest.TestCase):
    FUNCTIONS = [(ahead, ()), (is_ahead, (1, 0)), (why_ahead, (1, 0)), (is_paper, (1, 0, 2)), (standing_without, (1, 0))]

    def calls(self, tree, logs, house, x, z):
        """For each function of the stage, its arguments."""
        for function, taken in self.FUNCTIONS:
            yield function, (tree, logs, house) + ((x, z) if taken else ()) + ((None,) if len(taken) == 3 else ())

    def test_wrong_logs_come_first(self):
        for tree in (Tree(1, []), row_tree(3)):
            for value in not_rows(tree):
                for function, args in self.calls(tree, value, None, [], {}):
                    assert_invalid(self, InvalidRows, value, function, *args)

    def test_logs_that_do_not_fit_come_second_with_a_right_picture(self):
        for tree, logs, found in small_cases(91, 600):
            for function, args in self.calls(tree, logs, None, [], {}):
                if not found:
                    with self.assertRaises(DoNotFit) as caught:
                        function(*args)
                    self.assertIs(is_picture(tree, logs, caught.exception.picture), True)

    def test_wrong_houses_come_third(self):
        for tree in (ROW, STAR):
            logs = [[] for _ in range(tree.houses)]
            for value in not_houses(tree):
                for function, args in self.calls(tree, logs, value, [], {}):
                    assert_invalid(self, InvalidHouse, value, function, *args)

    def test_wrong_keys_come_then_the_first_one_ahead_of_the_second(self):
        logs = [[A, C], [B, A], []]
        for value in not_keys(logs):
            for function, args in self.calls(ROW, logs, 1, value, []):
                if function is not ahead:
                    assert_invalid(self, InvalidKey, value, function, *args)
            for function, args in self.calls(ROW, logs, 1, (0, 1), value):
                if function is not ahead:
                    assert_invalid(self, InvalidKey, value, function, *args)
        for value in not_keys([[], [], []]):
            assert_invalid(self, InvalidKey, value, is_ahead, ROW, [[], [], []], 0, value, value)

    def test_keys_that_no_log_has(self):
        for key in ((0, 2), (1, 0), (2, 1), (9, 0)):
            assert_told(self, InvalidKey(key), is_ahead, ROW, [[A, C], [B, A], []], 0, key, (0, 0))
            assert_told(self, InvalidKey(key), standing_without, ROW, [[A, C], [B, A], []], 0, (0, 0), key)


class Large(unittest.TestCase):
    def test_sixteen_houses_and_one_hundred_and_twenty_lines(self):
        draw = random.Random(94)
        for tree in (row_tree(16), star_tree(16, 5), drawn_tree(draw, 16)):
            rows = drawn_run(draw, tree, 120, 1500).rows()
            self.assertEqual(len({line for row in rows for line in row}), 120)
            for logs in (rows, cut(draw, rows, 0.2, 0.2), cut(draw, rows, 0.3, 0.7), cut(draw, rows, 0, 0)):
                start = time.perf_counter()
                keys = keys_of_logs(logs)
                house = draw.randrange(16)
                sure = set(ahead(tree, logs, house))
                for x, z in [draw.sample(keys, 2) for _ in range(6)] + draw.sample(sorted(sure), min(4, len(sure))):
                    self.assertIs(is_ahead(tree, logs, house, x, z), (x, z) in sure)
                    if (x, z) in sure:
                        self.assertIs(is_paper(tree, logs, house, x, z, why_ahead(tree, logs, house, x, z)), True)
                        continue
                    told = standing_without(tree, logs, house, x, z)
                    self.assertTrue(is_standing(tree, told) and begin_with(told, logs))
                    self.assertLessEqual({line for row in told for line in row}, {line for log in logs for line in log})
                    at = keys_in(told[house])
                    self.assertNotIn(x, at[:at.index(z)])
                self.assertLess(time.perf_counter() - start, 30)

    def test_twenty_four_lines_of_one_home_and_lost_logs(self):
        tree = drawn_tree(random.Random(95), 16)
        lines = [(home, number, "a", "") for number in range(24) for home in (3, 9)]
        logs = [[] for _ in range(16)]
        logs[3], logs[9] = lines, [line for line in lines if line[0] == 9]
        told = ahead(tree, logs, 3)
        self.assertEqual(len(told), 48 * 47 // 2)
        self.assertIs(is_ahead(tree, logs, 9, (9, 23), (3, 0)), True)
        self.assertIs(is_ahead(tree, logs, 9, (3, 0), (9, 23)), False)


class AnyAnswer(unittest.TestCase):
    """Point [10]: equal answers for equal arguments, new lists, nothing changed and nothing kept."""

    def answers(self, tree, logs):
        found = []
        keys = keys_of_logs(logs)[:3]
        for house, x, z in itertools.product(range(tree.houses), keys, keys):
            found += [ahead(tree, logs, house), is_ahead(tree, logs, house, x, z)]
            if found[-1]:
                found.append(why_ahead(tree, logs, house, x, z))
            elif x != z:
                found.append(standing_without(tree, logs, house, x, z))
        return found

    def test_equal_answers_for_lists_tuples_and_equal_trees(self):
        for tree, logs, _ in CASES[:60]:
            before = snapshot(logs)
            told = self.answers(tree, logs)
            self.assertEqual(self.answers(Tree(tree.houses, tree.roads), tuple(tuple(log) for log in logs)), told)
            self.assertEqual(self.answers(tree, [tuple(log) for log in logs]), told)
            self.assertEqual(snapshot(logs), before)

    def test_the_same_list_mended_and_passed_again(self):
        logs = [[X], [X], [Z], []]
        self.assertEqual(ahead(STAR, logs, 0), [((1, 0), (2, 0))])
        told = standing_without(STAR, logs, 3, (2, 0), (1, 0))
        kept = snapshot(told)
        logs[3] += [X, W]
        self.assertEqual(ahead(STAR, logs, 3), [((1, 0), (2, 0)), ((1, 0), (3, 0)), ((3, 0), (2, 0))])
        self.assertEqual(snapshot(told), kept)
        logs[0].clear()
        logs[3].clear()
        self.assertEqual(ahead(STAR, logs, 0), [])
        again = standing_without(STAR, logs, 3, (2, 0), (1, 0))
        for row in again:
            row.append(None)
        self.assertTrue(is_standing(STAR, standing_without(STAR, logs, 3, (2, 0), (1, 0))))
        self.assertEqual(logs, [[], [X], [Z], []])

    def test_lists_in_an_answer_are_all_different_ones(self):
        rows = standing_without(STAR, TWO_LOGS, 3, (1, 0), (3, 0))
        self.assertEqual(len({id(row) for row in rows}), 4)
        self.assertFalse([row for row in rows for log in TWO_LOGS if row is log])


if __name__ == "__main__":
    unittest.main()
