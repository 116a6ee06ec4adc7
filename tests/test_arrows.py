"""Points [7], [81], [82] and the interface under neverunsaid/arrows.py."""

import itertools
import random
import time
import unittest

from helpers import (
    assert_invalid, drawn_run, drawn_tree, is_int, naive_way, not_houses, not_rows, row_tree, run_examples, snapshot,
    star_tree, values_of_all_kinds,
)
from neverunsaid.arrows import arrows, is_picture, logs_fit, picture
from neverunsaid.errors import InvalidHouse, InvalidRows
from neverunsaid.trees import Tree
from search import (
    A, B, C, KNOWN, ROW, STAR, W, X, Z, arrows_by_words, cut, keys_of_logs, pictures_by_words, small_cases,
)

EXAMPLES = """
>>> from neverunsaid.arrows import arrows, is_picture, logs_fit, picture
>>> from neverunsaid.trees import Tree
>>> tree = Tree(4, [(0, 1), (0, 2), (0, 3)])
>>> x, z, w = (1, 0, "bell", "rings"), (2, 0, "door", ""), (3, 0, "bell", "")
>>> logs = [[], [x, w], [z, x], []]
>>> arrows(tree, logs, 0)
[((1, 0), (3, 0), (2, 2)), ((3, 0), (2, 0), (1, 2))]
>>> [len(arrows(tree, logs, 1)), picture(tree, logs), logs_fit(tree, logs)]
[5, None, True]
>>> torn = [[], [x, w], [z, x], [w, z]]
>>> [logs_fit(tree, torn), is_picture(tree, torn, picture(tree, torn))]
[False, True]
>>> is_picture(tree, torn, ("ring", 0, ((1, 2), (3, 2), (2, 2)), ((3, 0), (2, 0), (1, 0))))
True
>>> is_picture(tree, torn, ("ring", 0, ((3, 2), (1, 2), (2, 2)), ((3, 0), (2, 0), (1, 0))))
False
>>> [logs_fit(tree, [[], [], [x], []]), picture(tree, [[], [(1, 1, "bell", "")], [], []])]
[True, ('own', 1, 0)]
"""

CASES = small_cases(81, 700)


def near_values(item):
    """Values near to an item of a picture: one more or less, a list for a tuple, an item more or less, turned."""
    if isinstance(item, tuple):
        near = [list(item), item[:-1], item + item[:1], item[::-1], item[1:] + item[:1]]
        for at, inner in enumerate(item):
            near += [item[:at] + (value,) + item[at + 1:] for value in near_values(inner)]
        return near
    if is_int(item):
        return [item + 1, item - 1, -item, bool(item), str(item), None, item + 10 ** 19]
    return [item + "s", item[1:], "", 0, None]


class Point7(unittest.TestCase):
    """Logs fit if there is a standing in which each book begins with the log of its house."""

    def test_logs_fit_exactly_if_a_search_finds_a_standing(self):
        for tree, logs, found in CASES:
            self.assertIs(logs_fit(tree, logs), len(found) > 0, (tree.line(), logs))
            self.assertIs(picture(tree, logs) is None, len(found) > 0)
        self.assertGreater(len([found for _, _, found in CASES if found]), 300)
        self.assertGreater(len([found for _, _, found in CASES if not found]), 60)

    def test_known_logs(self):
        not_fitting = ["three do not fit, each two do", "a ring of two", "two unlike lines of one key", "a lesser number is missing",
                       "a lesser number stands behind", "a lesser number is in no log", "one house with its lines turned",
                       "one home in two orders", "turned the wrong way"]
        for name, (tree, logs) in KNOWN.items():
            self.assertIs(logs_fit(tree, logs), name not in not_fitting, name)

    def test_three_logs_of_which_each_two_fit(self):
        tree, logs = KNOWN["three do not fit, each two do"]
        for lost in (1, 2, 3):
            fewer = [[] if house == lost else log for house, log in enumerate(logs)]
            self.assertIs(logs_fit(tree, fewer), True)
        told = picture(tree, logs)
        self.assertEqual((told[0], told[1], len(told[2]), len(told[3])), ("ring", 0, 3, 3))

    def test_beginnings_of_the_books_of_one_standing_always_fit(self):
        draw = random.Random(82)
        for houses, lines, deeds in ((2, 12, 40), (5, 30, 150), (9, 60, 500), (16, 120, 1500)):
            for tree in (row_tree(houses), star_tree(houses), drawn_tree(draw, houses)):
                rows = drawn_run(draw, tree, lines, deeds).rows()
                for logs in (rows, cut(draw, rows), cut(draw, rows, 0, 0.5), cut(draw, rows, 0.2, 0)):
                    self.assertIs(logs_fit(tree, logs), True)
                    self.assertIsNone(picture(tree, logs))


class Point81(unittest.TestCase):
    def test_examples_of_the_interface(self):
        run_examples(self, EXAMPLES)

    def test_arrows_at_every_house_held_against_the_words(self):
        for tree, logs, _ in CASES:
            for house in range(tree.houses):
                found = arrows(tree, logs, house)
                self.assertIs(type(found), list)
                self.assertEqual(found, arrows_by_words(tree, logs, house), (tree.line(), logs, house))

    def test_arrows_of_drawn_runs(self):
        draw = random.Random(83)
        for houses, lines, deeds in ((6, 8, 60), (16, 9, 150)):
            for tree in (row_tree(houses), star_tree(houses, 3), drawn_tree(draw, houses)):
                logs = cut(draw, drawn_run(draw, tree, lines, deeds).rows())
                for house in range(houses):
                    self.assertEqual(arrows(tree, logs, house), arrows_by_words(tree, logs, house))

    def test_sixteen_houses_and_sixty_lines(self):
        draw = random.Random(86)
        one_home = [(5, number, "a", "") for number in range(24)]
        for tree in (row_tree(16), star_tree(16), drawn_tree(draw, 16)):
            for logs in (drawn_run(draw, tree, 60, 1500).rows(), [one_home] * 16):
                start = time.perf_counter()
                found = arrows(tree, logs, 7)
                self.assertLess(time.perf_counter() - start, 10)
                self.assertTrue(all(arrow < later for arrow, later in zip(found, found[1:])))
                ways = [[7 in naive_way(tree, home, at) for home in range(16)] for at in range(16)]
                keys = keys_of_logs(logs)
                wanted = 0
                for at, log in enumerate(logs):
                    for many in range(1, len(log) + 1):
                        wanted += len([line for line in log[:many] if ways[at][line[0]]]) * (len(keys) - many)
                self.assertEqual(len(found), wanted)
                for x, z, (at, many) in draw.sample(found, 300):
                    before = [line[:2] for line in logs[at][:many]]
                    self.assertEqual((x in before, z in before, ways[at][x[0]]), (True, False, True))

    def test_an_arrow_needs_the_house_on_the_way_of_the_first_line_to_the_log(self):
        tree = row_tree(4)
        logs = [[], [], [A], [B]]
        self.assertEqual(arrows(tree, logs, 0), [((0, 0), (2, 0), (2, 1))])
        self.assertEqual(arrows(tree, logs, 2), [((0, 0), (2, 0), (2, 1)), ((2, 0), (0, 0), (3, 1))])
        self.assertEqual(arrows(tree, logs, 3), [((2, 0), (0, 0), (3, 1))])

    def test_no_border_is_ahead_of_all_lines_and_one_is_behind_all(self):
        tree = row_tree(2)
        a, b = (0, 0, "a", ""), (0, 1, "a", "")
        self.assertEqual(arrows(tree, [[a, b], []], 0), [((0, 0), (0, 1), (0, 1))])
        self.assertEqual(arrows(tree, [[a], [a, b]], 0), [((0, 0), (0, 1), (0, 1)), ((0, 0), (0, 1), (1, 1))])
        self.assertEqual(arrows(tree, [[], []], 1), [])

    def test_lines_of_one_key_count_as_one_also_if_they_are_unlike(self):
        tree = row_tree(3)
        logs = [[A, C], [A[:3] + ("!",)], [A[:2] + ("gate", "")]]
        for house in range(3):
            like = [[(home, number, "bell", "") for home, number, _, _ in log] for log in logs]
            self.assertEqual(arrows(tree, logs, house), arrows(tree, like, house))
            self.assertEqual(arrows(tree, logs, house), arrows_by_words(tree, logs, house))

    def test_wrong_logs_and_houses(self):
        for tree in (Tree(1, []), row_tree(3), star_tree(5)):
            logs = [[] for _ in range(tree.houses)]
            for value in not_rows(tree):
                assert_invalid(self, InvalidRows, value, arrows, tree, value, None)
            for value in not_houses(tree):
                assert_invalid(self, InvalidHouse, value, arrows, tree, logs, value)

    def test_logs_that_do_not_fit_have_arrows_as_well(self):
        tree, logs = KNOWN["a ring of two"]
        self.assertEqual(arrows(tree, logs, 0), [((1, 0), (2, 0), (3, 1)), ((2, 0), (1, 0), (0, 1))])
        assert_invalid(self, InvalidHouse, 4, arrows, tree, logs, 4)


class Point82(unittest.TestCase):
    def test_the_picture_that_is_told_is_one_by_the_words(self):
        forms = {}
        for tree, logs, found in CASES:
            told = picture(tree, logs)
            if found:
                self.assertIsNone(told)
                self.assertEqual(pictures_by_words(tree, logs), [])
            else:
                self.assertIn(told, pictures_by_words(tree, logs))
                self.assertIs(is_picture(tree, logs, told), True)
                form = (told[0], len(told[2])) if told[0] == "ring" else told[0]
                forms[form] = forms.get(form, 0) + 1
        self.assertEqual(set(forms), {"own", "unlike", ("ring", 2), ("ring", 3)})

    def test_all_pictures_are_judged_and_what_is_near_them(self):
        draw = random.Random(84)
        seen = {}
        for tree, logs, found in CASES:
            pictures = [] if found else pictures_by_words(tree, logs)
            reprs = {repr(told) for told in pictures}
            for told in pictures:
                self.assertIs(is_picture(tree, logs, told), True, (tree.line(), logs, told))
            for told in draw.sample(pictures, min(3, len(pictures))):
                seen[told[0]] = seen.get(told[0], 0) + 1
                for near in near_values(told):
                    self.assertIs(is_picture(tree, logs, near), repr(near) in reprs, (tree.line(), logs, near))
        self.assertTrue(all(seen[form] > 8 for form in ("own", "unlike", "ring")), seen)

    def test_all_tuples_that_could_be_rings(self):
        for name in ("three do not fit, each two do", "two arrows are needed", "one home in two orders", "turned the wrong way"):
            tree, logs = KNOWN[name]
            pictures = set(pictures_by_words(tree, logs))
            borders = [(house, many) for house in range(tree.houses) for many in range(len(logs[house]) + 2)]
            keys = keys_of_logs(logs) + [(0, 5)]
            for many in (1, 2, 3, 4):
                chosen = borders if many < 3 else [(house, told) for house, told in borders if 1 <= told <= len(logs[house])]
                tuples = itertools.product(itertools.product(chosen, repeat=many), itertools.permutations(keys, many))
                for told, around in itertools.islice(tuples, 20000):
                    value = ("ring", 0, told, around)
                    self.assertIs(is_picture(tree, logs, value), value in pictures, (name, value))

    def test_each_form_with_one_item_changed_is_wrong(self):
        tree, logs = KNOWN["three do not fit, each two do"]
        right = ("ring", 0, ((1, 2), (3, 2), (2, 2)), ((3, 0), (2, 0), (1, 0)))
        turned = ("ring", 0, ((2, 2), (1, 2), (3, 2)), ((1, 0), (3, 0), (2, 0)))
        self.assertEqual([is_picture(tree, logs, told) for told in (right, turned)], [True, True])
        for wrong in (("ring", 1) + right[2:], ("ring", False) + right[2:], right[:2] + (((1, 1), (3, 2), (2, 2)), right[3]),
                      right[:3] + (((3, 0), (1, 0), (2, 0)),), right[:3] + (((3, 0), (2, 0), (3, 0)),), right + (0,), right[:3],
                      right[:2] + (list(right[2]), right[3]), right[:3] + (list(right[3]),), list(right), ("rings",) + right[1:],
                      right[:2] + (((1, 3), (3, 2), (2, 2)), right[3]), right[:2] + (((1, 2), (3, 2), (2, True)), right[3])):
            self.assertIs(is_picture(tree, logs, wrong), False, wrong)
        tree, logs = KNOWN["a ring of two"]
        right = ("ring", 0, ((3, 1), (0, 1)), ((1, 0), (2, 0)))
        self.assertIs(is_picture(tree, logs, right), True)
        self.assertIs(is_picture(tree, logs, ("ring", 0, ((0, 1), (3, 1)), ((2, 0), (1, 0)))), True)
        for wrong in (right[:2] + (((0, 1), (3, 1)), right[3]), right[:3] + (((2, 0), (1, 0)),), right[:2] + (((3, 1), (1, 1)), right[3]),
                      right[:2] + (((3, 2), (0, 1)), right[3]), right[:2] + (((3, 0), (0, 1)), right[3]), ("ring", 3) + right[2:],
                      ("ring", 0, ((3, 1),), ((1, 0),)), ("ring", 0, ((3, 1), (0, 1), (3, 1)), ((1, 0), (2, 0), (1, 0))),
                      ("ring", 0, ((3, 1), (0, 1), (3, 1), (0, 1)), ((1, 0), (2, 0), (1, 0), (2, 0)))):
            self.assertIs(is_picture(tree, logs, wrong), False, wrong)
        tree, logs = KNOWN["two unlike lines of one key"]
        self.assertIs(is_picture(tree, logs, ("unlike", 0, 0, 2, 0)), True)
        self.assertIs(is_picture(tree, logs, ("unlike", 2, 0, 0, 0)), True)
        for wrong in (("unlike", 0, 0, 0, 0), ("unlike", 0, 0, 1, 0), ("unlike", 0, 1, 2, 0), ("unlike", False, 0, 2, 0), ("own", 0, 0)):
            self.assertIs(is_picture(tree, logs, wrong), False, wrong)
        tree, logs = KNOWN["a lesser number is missing"]
        self.assertEqual(picture(tree, logs), ("own", 1, 0))
        for wrong in (("own", 0, 0), ("own", 1, 1), ("own", 1, -1), ("own", True, 0), ("own", 1, False), ("own", 1), ["own", 1, 0]):
            self.assertIs(is_picture(tree, logs, wrong), False, wrong)

    def test_own_speaks_of_the_log_itself_and_of_all_lesser_numbers(self):
        tree = row_tree(3)
        a0, a1, a2, a3 = [(0, number, "a", "") for number in range(4)]
        for log, wanted in (([a0, a1, a2], []), ([a1, a0, a2], [0]), ([a0, a2, a1], [1]), ([a0, a2], [1]), ([a3, a2, a1, a0], [0, 1, 2]),
                            ([a0, a1, a3], [2]), ([B, a1], [1]), ([a0, B, a1], [])):
            for house in range(3):
                logs = [[a0, a1, a2, a3], [], []]
                logs[house] = log
                told = [at for at in range(-1, 5) if is_picture(tree, logs, ("own", house, at))]
                self.assertEqual(told, wanted, log)

    def test_numbers_of_twenty_figures(self):
        many = 10 ** 20 - 1
        tree = row_tree(2)
        for log, wanted in (([(0, many, "a", "")], 0), ([(0, 0, "a", ""), (0, many, "a", "")], 1)):
            logs = [[], log]
            self.assertEqual(picture(tree, logs), ("own", 1, wanted))
            self.assertEqual([is_picture(tree, logs, ("own", 1, at)) for at in range(3)], [at == wanted for at in range(3)])
        self.assertEqual(arrows(tree, [[(1, many, "a", "")], [(0, many, "a", "")]], 0),
                         [((0, many), (1, many), (1, 1)), ((1, many), (0, many), (0, 1))])
        self.assertIs(is_picture(tree, [[], []], ("ring", 0, ((0, many), (1, many)), ((0, many), (1, many)))), False)

    def test_any_value_is_judged(self):
        for name, (tree, logs) in KNOWN.items():
            reprs = [repr(told) for told in pictures_by_words(tree, logs)]
            for value in values_of_all_kinds():
                before = snapshot(value)
                self.assertIs(is_picture(tree, logs, value), repr(value) in reprs, (name, value))
                self.assertEqual(snapshot(value), before)
        tree, logs = KNOWN["three do not fit, each two do"]
        right = ("ring", 0, ((1, 2), (3, 2), (2, 2)), ((3, 0), (2, 0), (1, 0)))
        for value in values_of_all_kinds():
            for near in ((value,) + right[1:], ("ring", value) + right[2:], right[:2] + (value, right[3]), right[:3] + (value,),
                         right[:2] + ((value,) + right[2][1:], right[3]), right[:3] + ((value,) + right[3][1:],),
                         right[:2] + (((1, value),) + right[2][1:], right[3]), right[:3] + (((3, value),) + right[3][1:],),
                         right[:2] + (((value, 2),) + right[2][1:], right[3]), right[:3] + (((value, 0),) + right[3][1:],)):
                self.assertIs(is_picture(tree, logs, near), repr(near) == repr(right), near)

    def test_wrong_logs(self):
        for tree in (Tree(1, []), row_tree(3)):
            for value in not_rows(tree):
                assert_invalid(self, InvalidRows, value, picture, tree, value)
                assert_invalid(self, InvalidRows, value, logs_fit, tree, value)
                assert_invalid(self, InvalidRows, value, is_picture, tree, value, ("own", 0, 0))

    def test_large_logs_that_do_not_fit(self):
        draw = random.Random(85)
        for tree in (row_tree(16), star_tree(16), drawn_tree(draw, 16)):
            rows = drawn_run(draw, tree, 120, 2500).rows()
            for house in (0, 7, 15):
                logs = [list(row) for row in rows]
                homes = [line[0] for line in logs[house]]
                draw.shuffle(homes)
                counts = [0] * 16
                for at, home in enumerate(homes):
                    logs[house][at] = [line for line in rows[house] if line[:2] == (home, counts[home])][0]
                    counts[home] += 1
                told = picture(tree, logs)
                self.assertEqual(told[0], "ring")
                self.assertIs(is_picture(tree, logs, told), True)
                for x, z, (at, many) in zip(told[3], told[3][1:] + told[3][:1], told[2]):
                    before = [line[:2] for line in logs[at][:many]]
                    self.assertEqual((x in before, z in before, told[1] in naive_way(tree, x[0], at)), (True, False, True))


class AnyAnswer(unittest.TestCase):
    """Point [10]: equal answers for equal arguments, tuples for lists, nothing changed and nothing kept."""

    def test_equal_answers_for_lists_tuples_and_equal_trees(self):
        for tree, logs, _ in CASES[:200]:
            before = snapshot(logs)
            answers = []
            for same in (logs, tuple(tuple(log) for log in logs), [tuple(log) for log in logs], [list(log) for log in logs]):
                again = Tree(tree.houses, tree.roads)
                answers.append((picture(again, same), logs_fit(again, same), arrows(again, same, tree.houses - 1)))
            self.assertEqual(answers, [answers[0]] * 4)
            self.assertEqual(snapshot(logs), before)

    def test_the_same_list_mended_and_passed_again(self):
        logs = [[A], [B, A], []]
        self.assertIs(logs_fit(ROW, logs), True)
        told = arrows(ROW, logs, 1)
        logs[2] += [A, B]
        self.assertIs(logs_fit(ROW, logs), False)
        self.assertIs(is_picture(ROW, logs, picture(ROW, logs)), True)
        self.assertNotEqual(arrows(ROW, logs, 1), told)
        logs[2].clear()
        self.assertIsNone(picture(ROW, logs))
        again = arrows(ROW, logs, 1)
        self.assertEqual(again, told)
        again.clear()
        self.assertEqual(arrows(ROW, logs, 1), told)
        self.assertEqual((STAR.houses, keys_of_logs([[X], [Z, W]])), (4, [(1, 0), (2, 0), (3, 0)]))


if __name__ == "__main__":
    unittest.main()
