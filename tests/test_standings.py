"""Points [5], [9] (its first statement), [71] to [73] and the interface under neverunsaid/standings.py."""

import copy
import itertools
import random
import unittest

from helpers import (
    assert_invalid, assert_told, directed_roads, drawn_run, drawn_tree, is_int, naive_side, row_tree, rows_by_form,
    run_examples, spoiled, star_tree, values_of_all_kinds,
)
from search import all_reached, lines_of
from neverunsaid.errors import Faulty, InvalidLater, InvalidRows
from neverunsaid.plain import is_script, run_plain
from neverunsaid.standings import goes_on, is_rows, is_standing, is_standing_fault, script_to, standing_fault
from neverunsaid.trees import Tree

EXAMPLES = """
>>> from neverunsaid.plain import run_plain
>>> from neverunsaid.standings import goes_on, is_rows, is_standing, is_standing_fault, script_to, standing_fault
>>> from neverunsaid.trees import Tree
>>> tree = Tree(3, [(0, 1), (1, 2)])
>>> x, z = (0, 0, "bell", "rings"), (2, 0, "door", "")
>>> rows = [[x], [x, z], [z]]
>>> [is_rows(tree, rows), standing_fault(tree, rows), run_plain(tree, script_to(tree, rows)).rows() == rows]
[True, None, True]
>>> [goes_on(tree, rows, [[x, z], [x, z], [z, x]]), goes_on(tree, rows, [[z, x], [x, z], [z, x]])]
[True, False]
>>> [standing_fault(tree, [[x], [], [x]]), is_standing(tree, [[x], [z, x], [x, z]])]
[('order', 1, 2, 0), False]
>>> is_standing_fault(tree, [[x], [z, x], [x, z]], ("two", 2, 1, (2, 0), (0, 0)))
True
>>> is_standing_fault(tree, [[x], [z, x], [x, z]], ("two", 2, 1, (0, 0), (2, 0)))
False
>>> script_to(tree, [[x], [], [x]])
raises Faulty(('order', 1, 2, 0))
"""


def faults_by_words(tree, rows):
    """All faults of rows, each found by the words of point [71] alone."""
    keys = [[line[:2] for line in row] for row in rows]
    places = [(house, at) for house, row in enumerate(rows) for at in range(len(row))]
    found = []
    for house, at in places:
        home, number = keys[house][at]
        if home == house and number != len([line for line in rows[house][:at] if line[0] == home]):
            found.append(("own", house, at))
        for other, place in places:
            if keys[house][at] == keys[other][place] and rows[house][at] != rows[other][place]:
                found.append(("unlike", house, at, other, place))
    for u, v in directed_roads(tree):
        u_side, v_side = naive_side(tree, u, v), naive_side(tree, v, u)
        at_u = [key for key in keys[u] if key[0] in u_side]
        at_v = [key for key in keys[v] if key[0] in u_side]
        for at, key in enumerate(keys[v]):
            if key[0] in u_side and (key not in at_u or at_u.index(key) != at_v.index(key)):
                found.append(("order", u, v, at))
        both = [key for key in keys[u] if key in keys[v]]
        for a, b in itertools.product(both, both):
            if a[0] in u_side and b[0] in v_side:
                if keys[u].index(b) < keys[u].index(a) and keys[v].index(a) < keys[v].index(b):
                    found.append(("two", u, v, a, b))
    return found


def fault_forms(tree, rows):
    """All tuples that could be faults of the rows, with indices that go one too far."""
    indices = range(max(len(row) for row in rows) + 1)
    houses = range(tree.houses)
    keys = sorted({line[:2] for row in rows for line in row})
    forms = [("own", house, at) for house in houses for at in indices]
    forms += [("unlike",) + items for items in itertools.product(houses, indices, houses, indices)]
    forms += [("order",) + items for items in itertools.product(houses, houses, indices)]
    return forms + [("two",) + items for items in itertools.product(houses, houses, keys, keys)]


def all_rows(tree, lines):
    """All rows of some of these lines."""
    orders = [order for many in range(len(lines) + 1) for order in itertools.permutations(lines, many)
              if len({line[:2] for line in order}) == many]
    return itertools.product(orders, repeat=tree.houses)


SMALL = [
    (Tree(1, []), lines_of((0, 0), (0, 1), (0, 2))),
    (row_tree(2), lines_of((0, 0), (0, 1), (1, 0))),
    (row_tree(2), lines_of((0, 0), (1, 0), (1, 1))),
    (row_tree(2), lines_of((0, 0), (0, 2), (1, 0))),
    (row_tree(2), lines_of((0, 0), (0, 1), (1, 0), (1, 1))),
    (row_tree(2), lines_of((0, 0), (1, 0)) + [(0, 0, "door", "x")]),
    (row_tree(3), lines_of((0, 0), (1, 0), (2, 0))),
    (row_tree(3), lines_of((0, 0), (0, 1), (2, 0))),
    (star_tree(3, 2), lines_of((0, 0), (1, 0), (2, 0))),
    (star_tree(4), lines_of((1, 0), (2, 0))),
]


class StatementOne(unittest.TestCase):
    """Rows are a standing exactly if no fault is found in them."""

    def test_all_small_rows_held_against_a_search_through_all_deeds(self):
        for tree, lines in SMALL:
            reached = all_reached(tree, lines)
            count = 0
            for rows in all_rows(tree, lines):
                self.assertIs(is_standing(tree, rows), rows in reached, rows)
                self.assertIs(standing_fault(tree, rows) is None, rows in reached, rows)
                count += rows in reached
            self.assertEqual(count, len(reached))

    def test_drawn_rows_of_four_houses_held_against_the_search(self):
        draw = random.Random(51)
        for tree in (star_tree(4, 1), row_tree(4), Tree(4, [(0, 1), (0, 3), (2, 3)])):
            searched = {}
            for rows in draw.sample(sorted(all_reached(tree, lines_of((0, 0), (1, 0), (3, 0)))), 100):
                self.assertIs(is_standing(tree, rows), True)
                if not any(rows):
                    continue
                wrong = tuple(tuple(row) for row in spoiled(draw, [list(row) for row in rows]))
                lines = tuple(sorted({line for row in wrong for line in row}))
                if rows_by_form(tree, wrong):
                    if lines not in searched:
                        searched[lines] = all_reached(tree, lines)
                    self.assertIs(is_standing(tree, wrong), wrong in searched[lines])

    def test_books_of_drawn_runs_are_standings(self):
        draw = random.Random(52)
        for houses, lines in ((1, 5), (2, 10), (5, 20), (9, 40), (16, 120)):
            for tree in (row_tree(houses), star_tree(houses), drawn_tree(draw, houses)):
                rows = drawn_run(draw, tree, lines, 500).rows()
                self.assertIs(is_standing(tree, rows), True)
                self.assertIsNone(standing_fault(tree, rows))


class Point71(unittest.TestCase):
    def test_examples_of_the_interface(self):
        run_examples(self, EXAMPLES)

    def test_any_value_is_judged_as_rows(self):
        for tree in (Tree(1, []), row_tree(3)):
            for value in values_of_all_kinds():
                self.assertIs(is_rows(tree, value), rows_by_form(tree, value), value)
                if not rows_by_form(tree, value):
                    self.assertIs(is_standing(tree, value), False)
                for rows in ([value, [], []], [[], (), value], [[value], [], []]):
                    self.assertIs(is_rows(tree, rows), rows_by_form(tree, rows), rows)

    def test_rows_at_their_bounds(self):
        tree = row_tree(2)
        x, z = lines_of((0, 0), (1, 0))
        for rows in ([[], []], ((), ()), [[x], (x, z)], [[z], [x, (0, 5, "a", "")]], [[x, (0, 1, "bell", "")], [z]]):
            self.assertIs(is_rows(tree, rows), True)
        for wrong in ([], [[]], [[], [], []], [[x, x], []], [[x, (0, 0, "door", "")], []], [[(2, 0, "a", "")], []], [[list(x)], []],
                      [x, z], [[None], []], [None, []], {0: [], 1: []}, [[(False, 0, "a", "")], []]):
            self.assertIs(is_rows(tree, wrong), False)
            assert_invalid(self, InvalidRows, wrong, standing_fault, tree, wrong)

    def test_all_faults_of_small_rows_are_judged(self):
        draw = random.Random(71)
        for tree, lines in SMALL:
            for rows in all_rows(tree, lines):
                if draw.random() > 1 / 12 and tree.houses > 1:
                    continue
                faults = faults_by_words(tree, rows)
                for form in fault_forms(tree, rows):
                    self.assertIs(is_standing_fault(tree, rows, form), form in faults, (rows, form))
                found = standing_fault(tree, rows)
                self.assertTrue(found in faults if faults else found is None, (rows, found))

    def test_faults_of_drawn_rows(self):
        draw = random.Random(72)
        kinds = {}
        for _ in range(400):
            tree = drawn_tree(draw, draw.randrange(2, 8))
            rows = drawn_run(draw, tree, 12, 60).rows()
            for _ in range(draw.randrange(1, 3)):
                wrong = spoiled(draw, rows)
                rows = wrong if rows_by_form(tree, wrong) else rows
            faults = faults_by_words(tree, rows)
            found = standing_fault(tree, rows)
            self.assertTrue(found in faults if faults else found is None)
            for fault in faults:
                self.assertIs(is_standing_fault(tree, rows, fault), True)
                kinds[fault[0]] = kinds.get(fault[0], 0) + 1
                near = fault[:draw.randrange(1, len(fault))]
                at = draw.randrange(1, len(fault))
                moved = fault[:at] + (fault[at] + 1 if is_int(fault[at]) else draw.choice([(0, 0), (1, 0), (9, 9)]),) + fault[at + 1:]
                self.assertIs(is_standing_fault(tree, rows, moved), moved in faults)
                for wrong in (near, list(fault), fault + (0,), (fault,), ("x" + fault[0],) + fault[1:]):
                    self.assertIs(is_standing_fault(tree, rows, wrong), False)
        self.assertEqual(sorted(kinds), ["order", "own", "two", "unlike"])

    def test_each_form_alone(self):
        tree = row_tree(3)
        x, z = (0, 0, "bell", ""), (2, 0, "bell", "")
        alone = [([[(0, 1, "bell", "")], [], []], ("own", 0, 0)), ([[x, (0, 2, "bell", "")], [x], []], ("own", 0, 1)),
                 ([[], [], [x]], ("order", 1, 2, 0)), ([[], [z], []], ("order", 2, 1, 0))]
        for rows, fault in alone:
            self.assertEqual((standing_fault(tree, rows), faults_by_words(tree, rows)), (fault, [fault]))
        unlike = [[x], [(0, 0, "bell", "else")], []]
        self.assertEqual(sorted(faults_by_words(tree, unlike)), [("unlike", 0, 0, 1, 0), ("unlike", 1, 0, 0, 0)])
        self.assertIn(standing_fault(tree, unlike), faults_by_words(tree, unlike))
        two = [[x], [x, z], [z, x]]
        self.assertIs(is_standing(tree, two), True)
        two = [[x], [z, x], [x, z]]
        self.assertEqual(sorted(faults_by_words(tree, two)), [("two", 1, 2, (0, 0), (2, 0)), ("two", 2, 1, (2, 0), (0, 0))])
        self.assertIn(standing_fault(tree, two), faults_by_words(tree, two))

    def test_any_value_is_judged_as_a_fault(self):
        tree = row_tree(3)
        x, z, w = (0, 0, "bell", ""), (1, 1, "bell", ""), (2, 0, "bell", "")
        for rows in ([[x], [z, x], [x]], [[x], [x[:3] + ("!",)], []], [[], [], []], [[x], [z], [x, z]], [[x], [w, x], [x, w]]):
            faults = faults_by_words(tree, rows)
            for value in values_of_all_kinds():
                self.assertIs(is_standing_fault(tree, rows, value), repr(value) in [repr(fault) for fault in faults])
            for fault, value in itertools.product(faults, values_of_all_kinds()):
                for at in range(len(fault)):
                    near = fault[:at] + (value,) + fault[at + 1:]
                    self.assertIs(is_standing_fault(tree, rows, near), repr(near) in [repr(told) for told in faults])
                for at in [at for at, item in enumerate(fault) if type(item) is tuple]:
                    for key in ((fault[at][0], value), (value, fault[at][1])):
                        near = fault[:at] + (key,) + fault[at + 1:]
                        self.assertIs(is_standing_fault(tree, rows, near), repr(near) in [repr(told) for told in faults])

    def test_a_list_in_the_place_of_a_key(self):
        tree = row_tree(3)
        x, z = (0, 0, "bell", ""), (2, 0, "bell", "")
        rows = [[x], [z, x], [x, z]]
        self.assertIs(is_standing_fault(tree, rows, ("two", 1, 2, (0, 0), (2, 0))), True)
        for wrong in (("two", 1, 2, [0, 0], (2, 0)), ("two", 1, 2, (0, 0), [2, 0]), ("two", True, 2, (0, 0), (2, 0)),
                      ("two", 1, 2, (False, 0), (2, 0)), ("two", 1, 2, (0, 0), (2, False)), ("two", 1, 2, (0, 0, 0), (2, 0)),
                      ("two", 2, True, (2, 0), (0, 0)), ("two", 1, 2, x, z), ["two", 1, 2, (0, 0), (2, 0)], ("two", 0, 2, (0, 0), (2, 0)), ("two", 1, 3, (0, 0), (2, 0))):
            self.assertIs(is_standing_fault(tree, rows, wrong), False)

    def test_negative_indices_are_none(self):
        tree = row_tree(2)
        rows = [[(0, 1, "bell", "")], [(0, 1, "bell", "x")]]
        self.assertIs(is_standing_fault(tree, rows, ("own", 0, 0)), True)
        for wrong in (("own", 0, -1), ("own", -2, 0), ("unlike", 0, -1, 1, 0), ("unlike", 0, 0, 1, -1), ("order", 0, 1, -1)):
            self.assertIs(is_standing_fault(tree, rows, wrong), False)


class Points72And73(unittest.TestCase):
    def assert_script_leads(self, tree, rows):
        script = script_to(tree, rows)
        self.assertIs(type(script), list)
        self.assertIs(is_script(tree, script), True)
        self.assertEqual(len(script), sum(len(row) for row in rows))
        self.assertEqual(run_plain(tree, script).rows(), [list(row) for row in rows])

    def test_scripts_to_all_small_standings(self):
        for tree, lines in SMALL:
            for rows in all_reached(tree, lines):
                self.assert_script_leads(tree, rows)

    def test_scripts_to_the_books_of_drawn_runs(self):
        draw = random.Random(81)
        for houses, lines, deeds in ((1, 9, 9), (3, 20, 60), (7, 40, 300), (16, 120, 1920)):
            for tree in (row_tree(houses), star_tree(houses), drawn_tree(draw, houses), drawn_tree(draw, houses)):
                self.assert_script_leads(tree, drawn_run(draw, tree, lines, deeds).rows())

    def test_faulty_rows_have_no_script(self):
        draw = random.Random(82)
        for _ in range(200):
            tree = drawn_tree(draw, draw.randrange(2, 7))
            rows = drawn_run(draw, tree, 10, 40).rows()
            later = [list(row) for row in rows]
            rows = spoiled(draw, rows)
            if rows_by_form(tree, rows) and faults_by_words(tree, rows):
                fault = standing_fault(tree, rows)
                assert_told(self, Faulty(fault), script_to, tree, rows)
                assert_told(self, Faulty(fault), goes_on, tree, rows, later)
                self.assertIs(goes_on(tree, [[] for _ in rows], rows), False)

    def test_going_on_in_all_small_standings(self):
        for tree, lines in SMALL:
            reached = sorted(all_reached(tree, lines))
            if len(reached) > 90:
                reached = random.Random(83).sample(reached, 90)
            for rows in reached:
                behind = all_reached(tree, lines, rows)
                for later in reached:
                    self.assertIs(goes_on(tree, rows, later), later in behind, (rows, later))

    def test_going_on_along_drawn_runs(self):
        draw = random.Random(84)
        for houses in (2, 5, 16):
            tree = drawn_tree(draw, houses)
            script = drawn_run(draw, tree, 30, 300).script
            standings = [run_plain(tree, script[:many]).rows() for many in range(0, len(script), 37)]
            for at, rows in enumerate(standings):
                for place, later in enumerate(standings):
                    self.assertIs(goes_on(tree, rows, later), at <= place)

    def test_going_on_needs_the_very_lines(self):
        tree = row_tree(2)
        x, z = lines_of((0, 0), (1, 0))
        other = (0, 0, "bell", "else")
        self.assertIs(goes_on(tree, [[x], []], [[x], [x]]), True)
        self.assertIs(goes_on(tree, [[x], []], [[other], [other]]), False)
        self.assertIs(goes_on(tree, [[x], [x]], [[x], []]), False)
        self.assertIs(goes_on(tree, [[x], []], [[z, x], [z]]), False)
        self.assertIs(goes_on(tree, rows=((x,), ()), later=[(x,), [x, z]]), True)

    def test_order_of_the_errors(self):
        tree = row_tree(2)
        wrong = [[None], []]
        faulty = [[], [(0, 0, "bell", "")]]
        assert_invalid(self, InvalidRows, wrong, goes_on, tree, wrong, wrong)
        assert_told(self, Faulty(("order", 0, 1, 0)), goes_on, tree, faulty, wrong)
        for value in values_of_all_kinds():
            if not rows_by_form(tree, value):
                assert_invalid(self, InvalidLater, value, goes_on, tree, [[], []], value)
                assert_invalid(self, InvalidRows, value, goes_on, tree, value, value)
                assert_invalid(self, InvalidRows, value, standing_fault, tree, value)
                assert_invalid(self, InvalidRows, value, script_to, tree, value)
                assert_invalid(self, InvalidRows, value, is_standing_fault, tree, value, None)
        for fault in (("own", 0, 0), None, []):
            assert_invalid(self, InvalidRows, wrong, is_standing_fault, tree, wrong, fault)


class AnyAnswer(unittest.TestCase):
    """Point [10]: any answer is an equal one for equal arguments on every call, and all lists are new."""

    def test_equal_answers_for_lists_and_tuples_and_equal_trees(self):
        draw = random.Random(91)
        for _ in range(150):
            tree = drawn_tree(draw, draw.randrange(2, 8))
            rows = drawn_run(draw, tree, 12, 60).rows()
            wrong = spoiled(draw, rows)
            rows = wrong if draw.random() < 0.7 and rows_by_form(tree, wrong) else rows
            before = copy.deepcopy(rows)
            answers = []
            for same in (rows, tuple(tuple(row) for row in rows), [tuple(row) for row in rows], copy.deepcopy(rows)):
                again = Tree(tree.houses, list(tree.roads))
                fault = standing_fault(again, same)
                answers.append((fault, script_to(again, same) if fault is None else None))
            self.assertEqual(answers, [answers[0]] * 4)
            self.assertEqual(rows, before)

    def test_changed_arguments_and_answers_have_no_effect(self):
        tree = row_tree(3)
        x, z = (0, 0, "bell", ""), (2, 0, "bell", "")
        rows, later = [[x], [x], []], [[x], [x, z], [z]]
        script = script_to(tree, rows)
        kept = list(script)
        script.clear()
        self.assertEqual(script_to(tree, rows), kept)
        self.assertIs(goes_on(tree, rows, later), True)
        later[1].reverse()
        self.assertIs(goes_on(tree, rows, later), False)
        rows[2].append(z)
        rows[1].append((1, 1, "a", ""))
        self.assertEqual(standing_fault(tree, rows), ("own", 1, 1))
        del rows[1][1:]
        self.assertIs(is_standing(tree, rows), True)
        self.assertEqual(len(script_to(tree, rows)), 3)


if __name__ == "__main__":
    unittest.main()
