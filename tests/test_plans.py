"""Points [9] (its fourth and fifth statement), [111], [112] and the interface under neverunsaid/plans.py."""

import random
import time
import unittest

from helpers import (
    assert_invalid, drawn_run, drawn_tree, not_rows, row_tree, run_examples, snapshot, spoiled, star_tree,
    values_of_all_kinds,
)
from neverunsaid.arrows import is_picture, logs_fit
from neverunsaid.errors import DoNotFit, InvalidRows
from neverunsaid.held import held
from neverunsaid.plans import added, is_plan, plan
from neverunsaid.standings import is_standing
from neverunsaid.trees import Tree
from search import (
    A, B, C, KNOWN, ROW, STAR, W, X, Z, begin_with, cut, drawn_logs, fitting_cases, held_by_search, keys_in, small_cases,
)

EXAMPLES = """
>>> from neverunsaid.plans import added, is_plan, plan
>>> from neverunsaid.trees import Tree
>>> tree = Tree(4, [(0, 1), (0, 2), (0, 3)])
>>> x, z, w = (1, 0, "bell", "rings"), (2, 0, "door", ""), (3, 0, "bell", "")
>>> logs = [[], [x, w], [z, x], []]
>>> plan(tree, logs) == [[x, w], [x, w], [z, x], [w]]
True
>>> added(tree, logs)
[[(1, 0, 'bell', 'rings'), (3, 0, 'bell', '')], [], [], [(3, 0, 'bell', '')]]
>>> [is_plan(tree, logs, [[w, x], [x, w], [z, x], [w]]), is_plan(tree, logs, [[x, w, z], [x, w], [z, x], [w]])]
[False, False]
>>> row = Tree(3, [(0, 1), (1, 2)])
>>> turned = [[(0, 0, "a", ""), (2, 0, "b", "")], [], [(2, 0, "b", ""), (0, 0, "a", "")]]
>>> [is_plan(row, turned, [turned[0], turned[0], turned[2]]), is_plan(row, turned, [turned[0], turned[2], turned[2]])]
[True, True]
>>> plan(row, [turned[2], [], turned[0]])
raises DoNotFit
"""

CASES = fitting_cases(111, 700)


def as_tuples(rows):
    return tuple(tuple(row) for row in rows)


class StatementFour(unittest.TestCase):
    """There is a standing that begins with the logs and has just what each house surely held."""

    def test_the_plan_is_such_a_standing_by_the_search(self):
        for tree, logs, found in CASES:
            told = plan(tree, logs)
            self.assertEqual({type(told)} | {type(row) for row in told}, {list})
            self.assertIn(as_tuples(told), found, (tree.line(), logs))
            self.assertEqual([sorted(keys_in(row)) for row in told], held_by_search(tree, logs, found))

    def test_no_standing_has_less_at_any_house(self):
        for tree, logs, found in CASES:
            told = [set(row) for row in plan(tree, logs)]
            for rows in found:
                self.assertTrue(all(few <= set(row) for few, row in zip(told, rows)))

    def test_a_line_stands_in_it_exactly_if_some_log_holds_it(self):
        for tree, logs, _ in CASES:
            self.assertEqual({line for row in plan(tree, logs) for line in row}, {line for log in logs for line in log})

    def test_a_house_whose_log_is_its_whole_book_has_just_its_log(self):
        draw = random.Random(112)
        for houses, lines, deeds in ((2, 9, 30), (5, 20, 120), (16, 60, 700)):
            for tree in (row_tree(houses), star_tree(houses), drawn_tree(draw, houses)):
                rows = drawn_run(draw, tree, lines, deeds).rows()
                for logs in (rows, cut(draw, rows), cut(draw, rows, 0.2, 0.6), cut(draw, rows, 0, 0)):
                    told = plan(tree, logs)
                    self.assertEqual([row for row, log, book in zip(told, logs, rows) if log == book and row != book], [])
                    self.assertTrue(all(set(row) <= set(book) for row, book in zip(told, rows)))


class StatementFive(unittest.TestCase):
    """Rows of a plan are taken in part, logs lose their ends again: what is left fits, and a plan of it goes on."""

    def test_plans_made_anew_behind_logs_that_took_a_part_and_lost_their_ends(self):
        draw = random.Random(113)
        cases = [(tree, logs) for tree, logs, _ in CASES[:200]]
        for houses, lines, deeds in ((6, 20, 120), (16, 40, 500)):
            cases += [(tree, cut(draw, drawn_run(draw, tree, lines, deeds).rows()))
                      for tree in (row_tree(houses), star_tree(houses), drawn_tree(draw, houses))]
        for tree, logs in cases:
            for _ in range(3):
                told = plan(tree, logs)
                left = [row if draw.random() < 0.5 else log for row, log in zip(told, logs)]
                self.assertEqual(held(tree, left), held(tree, logs))
                left = [row[:draw.randrange(len(row) + 1)] if draw.random() < 0.5 else row for row in left]
                self.assertIs(logs_fit(tree, left), True)
                again = plan(tree, left)
                self.assertTrue(begin_with(again, left) and is_standing(tree, again) and is_plan(tree, left, again))
                logs = left

    def test_houses_that_take_rows_of_any_plan(self):
        draw = random.Random(114)
        for tree, logs, found in CASES[:250]:
            plans = [rows for rows in found if is_plan(tree, logs, rows)]
            for rows in draw.sample(plans, min(3, len(plans))):
                left = [row if draw.random() < 0.5 else log for row, log in zip(rows, logs)]
                self.assertEqual(held(tree, left), held(tree, logs))
                left = [row[:draw.randrange(len(row) + 1)] for row in left]
                self.assertTrue(begin_with(plan(tree, left), left))


class Point111(unittest.TestCase):
    def test_examples_of_the_interface(self):
        run_examples(self, EXAMPLES)

    def test_all_standings_are_judged_as_plans(self):
        several = 0
        for tree, logs, found in CASES:
            sure = held_by_search(tree, logs, found)
            plans = [rows for rows in found if [sorted(keys_in(row)) for row in rows] == sure]
            several += len(plans) > 1
            for rows in found[:40] + plans:
                self.assertIs(is_plan(tree, logs, rows), rows in plans)
                self.assertIs(is_plan(tree, logs, [list(row) for row in rows]), rows in plans)
        self.assertGreater(several, 5)

    def test_spoiled_plans_are_none(self):
        draw = random.Random(115)
        for tree, logs, found in CASES[:400]:
            told = plan(tree, logs)
            if any(told):
                wrong = spoiled(draw, told)
                sure = held_by_search(tree, logs, found)
                right = as_tuples(wrong) in found and [sorted(keys_in(row)) for row in wrong] == sure
                self.assertIs(is_plan(tree, logs, wrong), right)

    def test_what_is_no_plan(self):
        tree, logs = KNOWN["two arrows are needed"]
        right = [[X, W], [X, W], [Z, X], [W]]
        self.assertIs(is_plan(tree, logs, right), True)
        self.assertIs(is_plan(tree, logs, tuple(tuple(row) for row in right)), True)
        unlike = [[X, W[:3] + ("!",)], [X, W], [Z, X], [W]]
        for wrong in (right[:3], right + [[]], [[X, W], [X, W], [Z, X], []], [[X], [X, W], [Z, X], [W]], [[X, W], [X, W], [Z, X], [W, X]],
                      [[X, W], [W, X], [Z, X], [W]], [[X, W], [X, W], [X, Z], [W]], unlike, [[list(X), W], [X, W], [Z, X], [W]],
                      {0: 1}, [[X, W, X], [X, W], [Z, X], [W]], None):
            self.assertIs(is_plan(tree, logs, wrong), False, wrong)
        # Lines that are unlike those of the logs, at all houses alike.
        other = A[:3] + ("!",)
        self.assertIs(is_plan(ROW, [[], [A], []], [[A], [A], []]), True)
        self.assertIs(is_plan(ROW, [[], [A], []], [[other], [other], []]), False)

    def test_any_value_is_judged_as_a_plan(self):
        line = (0, 0, "bell", "rings")
        for logs in ([[line], [], []], [[], [], []], [[line], [line], [line]], [[], [], [line]]):
            for value in values_of_all_kinds():
                before = snapshot(value)
                right = is_standing(ROW, value) and begin_with(value, logs) and list(map(list, value)) == plan(ROW, logs)
                self.assertIs(is_plan(ROW, logs, value), right, (logs, value))
                for at in range(3):
                    near = [[], [], []]
                    near[at] = value
                    self.assertIs(is_plan(ROW, [[], [], []], near), value in ([], ()) and value is not False)
                self.assertEqual(snapshot(value), before)


class Point112(unittest.TestCase):
    def test_added_is_what_stands_behind_the_logs_in_the_plan(self):
        for tree, logs, _ in CASES:
            told = added(tree, logs)
            self.assertEqual({type(told)} | {type(lines) for lines in told}, {list})
            self.assertEqual([list(log) + lines for log, lines in zip(logs, told)], plan(tree, logs))

    def test_nothing_is_added_where_nothing_was_lost(self):
        for name in ("nothing lost", "all lost", "one house"):
            tree, logs = KNOWN[name]
            self.assertEqual((added(tree, logs), plan(tree, logs)), ([[] for _ in logs], logs))
        self.assertEqual(added(ROW, [[], [A, C], [A]]), [[A, C], [], []])
        self.assertEqual(added(ROW, ((), (), (B, A))), [[A], [A], []])

    def test_further_logs_along_one_plan_change_nothing_of_what_was_held(self):
        draw = random.Random(116)
        for tree, logs, found in CASES[:300]:
            plans = [rows for rows in found if is_plan(tree, logs, rows)]
            for rows in [plan(tree, logs)] + plans[-2:]:
                further = [row[:draw.randrange(len(log), len(row) + 1)] for row, log in zip(rows, logs)]
                self.assertIs(logs_fit(tree, further), True)
                self.assertEqual(held(tree, further), held(tree, logs))


class Errors(unittest.TestCase):
    def test_wrong_logs(self):
        for tree in (Tree(1, []), row_tree(3)):
            for value in not_rows(tree):
                assert_invalid(self, InvalidRows, value, plan, tree, value)
                assert_invalid(self, InvalidRows, value, added, tree, value)
                assert_invalid(self, InvalidRows, value, is_plan, tree, value, None)

    def test_logs_that_do_not_fit(self):
        many = 0
        for tree, logs, found in small_cases(111, 700):
            if not found:
                many += 1
                before = snapshot(logs)
                for function, further in ((plan, ()), (added, ()), (is_plan, (logs,)), (is_plan, (None,))):
                    with self.assertRaises(DoNotFit) as caught:
                        function(tree, logs, *further)
                    self.assertIs(is_picture(tree, logs, caught.exception.picture), True)
                self.assertEqual(snapshot(logs), before)
        self.assertGreater(many, 60)


class Large(unittest.TestCase):
    def assert_planned(self, tree, logs):
        start = time.perf_counter()
        told = plan(tree, logs)
        self.assertTrue(is_standing(tree, told) and begin_with(told, logs))
        self.assertEqual([sorted(keys_in(row)) for row in told], held(tree, logs))
        self.assertEqual([list(log) + lines for log, lines in zip(logs, added(tree, logs))], told)
        self.assertIs(is_plan(tree, logs, told), True)
        self.assertLess(time.perf_counter() - start, 10)
        return told

    def test_sixteen_houses_and_one_hundred_and_twenty_lines(self):
        draw = random.Random(117)
        for tree in (row_tree(16), star_tree(16), star_tree(16, 7), drawn_tree(draw, 16), drawn_tree(draw, 16)):
            for deeds in (600, 1500, 2500):
                rows = drawn_run(draw, tree, 120, deeds).rows()
                for logs in (rows, cut(draw, rows, 0.2, 0.2), cut(draw, rows, 0.3, 0.7), cut(draw, rows, 0, 0)):
                    self.assert_planned(tree, logs)

    def test_all_is_left_of_one_house_alone(self):
        draw = random.Random(118)
        for tree in (row_tree(16), star_tree(16), drawn_tree(draw, 16)):
            rows = drawn_run(draw, tree, 120, 4000).rows()
            for house in (0, 9, 15):
                self.assert_planned(tree, [row if at == house else [] for at, row in enumerate(rows)])

    def test_twenty_four_lines_of_one_home_and_one_more(self):
        tree = row_tree(16)
        lines = [(0, number, "a", "") for number in range(24)] + [(15, 0, "b", "")]
        logs = [[] for _ in range(16)]
        logs[15], logs[8] = lines[-1:] + lines[:24], lines[:3]
        told = self.assert_planned(tree, logs)
        self.assertEqual([len(row) for row in told], [24] * 15 + [25])
        self.assertEqual(told[0], lines[:24])


class AnyAnswer(unittest.TestCase):
    """Point [10]: equal answers for equal arguments, new lists, nothing changed and nothing kept."""

    def test_equal_answers_for_lists_tuples_and_equal_trees(self):
        draw = random.Random(119)
        for _ in range(60):
            tree, logs = drawn_logs(draw, draw.randrange(2, 9), 14, cuts_alone=True)
            before = snapshot(logs)
            answers = [(plan(again, same), added(again, same)) for again, same in (
                (tree, logs), (Tree(tree.houses, list(tree.roads)), as_tuples(logs)), (tree, [tuple(log) for log in logs]), (tree, logs))]
            self.assertEqual(answers, [answers[0]] * 4)
            self.assertEqual(snapshot(logs), before)

    def test_the_same_list_mended_and_passed_again(self):
        logs = [[], [X, W], [Z, X], []]
        told = plan(STAR, logs)
        self.assertEqual(told, [[X, W], [X, W], [Z, X], [W]])
        logs[3] += [W, Z]
        with self.assertRaises(DoNotFit):
            plan(STAR, logs)
        del logs[3][1:], logs[1][1:]
        self.assertEqual(plan(STAR, logs), [[X], [X], [Z, X], [W]])
        self.assertEqual(told, [[X, W], [X, W], [Z, X], [W]])

    def test_all_lists_are_new(self):
        logs = [[], [X, W], [Z, X], []]
        for function in (plan, added):
            first = function(STAR, logs)
            kept = [list(row) for row in first]
            lists = [id(row) for row in first] + [id(row) for row in function(STAR, logs)] + [id(log) for log in logs]
            for row in first:
                row.append(None)
            self.assertEqual(function(STAR, logs), kept)
            self.assertEqual(logs, [[], [X, W], [Z, X], []])
            self.assertGreaterEqual(len(set(lists)), 8)
            self.assertEqual(len({id(row) for row in first}), 4)


if __name__ == "__main__":
    unittest.main()
