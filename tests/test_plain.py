"""Points [5], [61] to [64] and the interface under neverunsaid/plain.py."""

import copy
import itertools
import random
import unittest

from helpers import (
    all_trees, assert_invalid, assert_told, directed_roads, drawn_run, drawn_tree, is_int, naive_side, row_tree,
    run_examples, sample_trees, star_tree, values_of_all_kinds,
)
from neverunsaid.errors import (
    InvalidCell, InvalidHouse, InvalidScript, InvalidText, NotARoad, NothingUnderWay, Stopped,
)
from neverunsaid.plain import Plain, is_script, run_plain
from neverunsaid.texts import is_cell, is_text
from neverunsaid.trees import Tree

EXAMPLES = """
>>> from neverunsaid.plain import Plain, is_script, run_plain
>>> from neverunsaid.trees import Tree
>>> plain = Plain(Tree(3, [(0, 1), (1, 2)]))
>>> [plain.make(0, "bell", "rings at five"), plain.hand(0, 1), plain.make(2, "bell", "")]
[(0, 0, 'bell', 'rings at five'), (0, 0, 'bell', 'rings at five'), (2, 0, 'bell', '')]
>>> [plain.under_way(1, 2), plain.under_way(1, 0), plain.hand(2, 1)]
[((0, 0, 'bell', 'rings at five'),), (), (2, 0, 'bell', '')]
>>> [plain.row(1), plain.shows(1), plain.script[2:]]
[((0, 0, 'bell', 'rings at five'), (2, 0, 'bell', '')), ((2, 0, 'bell', ''),), (('make', 2, 'bell', ''), ('hand', 2, 1))]
>>> [run_plain(plain.tree, plain.script).rows()[2], is_script(plain.tree, [("hand", 0, 2)])]
[[(2, 0, 'bell', '')], False]
>>> run_plain(plain.tree, [("make", 0, "bell", ""), ("hand", 1, 0)])
raises Stopped(1)
"""


class ByTheWords:
    """The plain store as point [5] words it: all is read off the books."""

    def __init__(self, tree):
        self.tree = tree
        self.books = [[] for _ in range(tree.houses)]
        self.script = []
        self.sides = {road: naive_side(tree, *road) for road in directed_roads(tree)}

    def make(self, house, cell, text):
        line = (house, len([line for line in self.books[house] if line[0] == house]), cell, text)
        self.books[house].append(line)
        self.script.append(("make", house, cell, text))
        return line

    def under_way(self, u, v):
        return tuple(line for line in self.books[u] if line[0] in self.sides[(u, v)] and line not in self.books[v])

    def hand(self, u, v):
        line = self.under_way(u, v)[0]
        self.books[v].append(line)
        self.script.append(("hand", u, v))
        return line

    def shows(self, house):
        cells = sorted({line[2] for line in self.books[house]})
        return tuple([line for line in self.books[house] if line[2] == cell][-1] for cell in cells)


def state(plain):
    roads = directed_roads(plain.tree)
    return (plain.rows(), plain.script, [plain.under_way(*road) for road in roads])


class Points61And62(unittest.TestCase):
    def assert_same(self, plain, words):
        self.assertEqual(plain.rows(), words.books)
        self.assertEqual(plain.script, tuple(words.script))
        self.assertEqual((type(plain.script), type(plain.rows())), (tuple, list))
        for house in range(plain.tree.houses):
            self.assertEqual(plain.row(house), tuple(words.books[house]))
            self.assertEqual(plain.shows(house), words.shows(house))
            self.assertEqual((type(plain.row(house)), type(plain.shows(house))), (tuple, tuple))
        for road in directed_roads(plain.tree):
            self.assertEqual(plain.under_way(*road), words.under_way(*road))

    def test_examples_of_the_interface(self):
        run_examples(self, EXAMPLES)

    def test_a_store_at_its_beginning(self):
        for tree in sample_trees():
            plain = Plain(tree)
            self.assertEqual(plain.tree, tree)
            self.assert_same(plain, ByTheWords(tree))

    def test_drawn_deeds_by_the_words_of_the_document(self):
        draw = random.Random(21)
        for tree in sample_trees():
            plain, words = Plain(tree), ByTheWords(tree)
            for _ in range(40 if tree.houses < 6 else 60):
                if draw.random() < 0.35 or tree.houses == 1:
                    given = (draw.randrange(tree.houses), draw.choice(["a", "b", "cc"]), draw.choice(["", "x", "  "]))
                    self.assertEqual(plain.make(*given), words.make(*given))
                else:
                    road = draw.choice(directed_roads(tree))
                    if words.under_way(*road):
                        self.assertEqual(plain.hand(*road), words.hand(*road))
                    else:
                        before = state(plain)
                        assert_told(self, NothingUnderWay(*road), plain.hand, *road)
                        self.assertEqual(state(plain), before)
                self.assert_same(plain, words)

    def test_numbers_count_what_was_made_at_the_home(self):
        plain = Plain(row_tree(2))
        for number in range(30):
            self.assertEqual(plain.make(0, "a", ""), (0, number, "a", ""))
        self.assertEqual(plain.make(1, "a", ""), (1, 0, "a", ""))

    def test_a_house_alone(self):
        plain = Plain(Tree(1, []))
        self.assertEqual(plain.make(house=0, cell="bell", text="x"), (0, 0, "bell", "x"))
        self.assertEqual((plain.rows(), plain.shows(0)), ([[(0, 0, "bell", "x")]], ((0, 0, "bell", "x"),)))
        assert_told(self, NotARoad(0, 0), plain.hand, 0, 0)

    def test_wrong_arguments_and_their_order(self):
        for value in values_of_all_kinds():
            plain = drawn_run(random.Random(1), row_tree(3), 4, 9)
            before = state(plain)
            if not (is_int(value) and 0 <= value < 3):
                for call in (plain.row, plain.shows):
                    assert_invalid(self, InvalidHouse, value, call, value)
                assert_invalid(self, InvalidHouse, value, plain.make, value, None, None)
                for call in (plain.hand, plain.under_way):
                    assert_invalid(self, InvalidHouse, value, call, value, None)
                    assert_invalid(self, InvalidHouse, value, call, 0, value)
            if not is_cell(value):
                assert_invalid(self, InvalidCell, value, plain.make, 0, value, None)
            if not is_text(value):
                assert_invalid(self, InvalidText, value, plain.make, 0, "bell", value)
            self.assertEqual(state(plain), before)

    def test_roads_that_are_none(self):
        for tree in sample_trees():
            plain = Plain(tree)
            for u, v in itertools.product(range(tree.houses), repeat=2):
                wanted = NothingUnderWay(u, v) if (u, v) in directed_roads(tree) else NotARoad(u, v)
                assert_told(self, wanted, plain.hand, u, v)
                if (u, v) not in directed_roads(tree):
                    assert_told(self, wanted, plain.under_way, u, v)

    def test_returned_lists_are_new_on_each_call(self):
        plain = drawn_run(random.Random(2), row_tree(3), 5, 20)
        before = copy.deepcopy(state(plain))
        rows = plain.rows()
        rows[0].append(None)
        rows.append([])
        self.assertEqual(state(plain), before)


class Point63(unittest.TestCase):
    def test_scripts_lead_to_the_same_store(self):
        draw = random.Random(31)
        for tree in sample_trees():
            plain = drawn_run(draw, tree, 12, 80)
            for script in (plain.script, list(plain.script)):
                self.assertIs(is_script(tree, script), True)
                self.assertEqual(state(run_plain(tree, script)), state(plain))

    def test_most_deeds(self):
        tree = row_tree(2)
        for deeds in ([("make", 0, "a", "")] * 2000, ([("make", 0, "a", ""), ("hand", 0, 1)] * 1000)):
            self.assertIs(is_script(tree, deeds), True)
            plain = run_plain(tree, deeds)
            self.assertEqual(plain.script, tuple(deeds))
            longer = deeds + [("make", 1, "a", "")]
            self.assertIs(is_script(tree, longer), False)
            assert_invalid(self, InvalidScript, longer, run_plain, tree, longer)
        self.assertEqual(plain.row(1)[-1], (0, 999, "a", ""))

    def test_the_first_deed_that_cannot_be_done(self):
        draw = random.Random(32)
        for tree in [row_tree(3), star_tree(4), drawn_tree(draw, 7)]:
            for _ in range(60):
                script = list(drawn_run(draw, tree, 6, 30).script)
                draw.shuffle(script)
                words, at = ByTheWords(tree), 0
                while at < len(script) and (script[at][0] == "make" or words.under_way(*script[at][1:])):
                    getattr(words, script[at][0])(*script[at][1:])
                    at += 1
                self.assertIs(is_script(tree, script), True)
                if at < len(script):
                    assert_told(self, Stopped(at), run_plain, tree, script)
                else:
                    self.assertEqual(run_plain(tree, script).rows(), words.books)

    def test_any_value_is_judged(self):
        tree = row_tree(3)
        makes = [("make", 0, "bell", ""), ("make", 0, "bell", "rings")]
        right = [[], (), [makes[0]], (makes[0],), [("hand", 0, 1)], [("hand", 1, 0), makes[1]], [("hand", 2, 1)]]
        for script in right:
            self.assertIs(is_script(tree, script), True)
        for value in values_of_all_kinds():
            # By their looks, since True and 1 are equal for Python.
            if isinstance(value, (list, tuple)) and repr(list(value)) in [repr(list(script)) for script in right]:
                self.assertIs(is_script(tree, value), True)
            else:
                self.assertIs(is_script(tree, value), False, value)
                assert_invalid(self, InvalidScript, value, run_plain, tree, value)

    def test_deeds_with_one_item_changed(self):
        tree = row_tree(3)
        for deed, rights in ((("make", 1, "bell", "x"), [["make"], [0, 1, 2], None, None]), (("hand", 1, 2), [["hand"], [1], [0, 2]])):
            for at, value in itertools.product(range(len(deed)), values_of_all_kinds()):
                near = deed[:at] + (value,) + deed[at + 1:]
                if rights[at] is None:
                    right = (is_cell, is_text)[at - 2](value)
                else:
                    right = type(value) in (int, str) and value in rights[at]
                self.assertIs(is_script(tree, [near]), right, near)
            for near in (deed[:-1], deed + (1,), list(deed), (deed,), deed[1:]):
                for script in ([near], [deed, near], (near, deed)):
                    self.assertIs(is_script(tree, script), False)
                    assert_invalid(self, InvalidScript, script, run_plain, tree, script)

    def test_by_name_and_with_a_changed_list(self):
        tree = row_tree(2)
        script = [("make", 0, "a", ""), ("hand", 0, 1)]
        plain = run_plain(tree=tree, script=script)
        script.append(None)
        script[0] = None
        self.assertEqual(plain.script, (("make", 0, "a", ""), ("hand", 0, 1)))
        self.assertIs(is_script(tree=tree, value=[]), True)


class Point64(unittest.TestCase):
    def test_what_stood_at_home_when_a_line_was_made_is_ahead_of_it_everywhere(self):
        draw = random.Random(41)
        for tree in [tree for houses in (2, 3, 4) for tree in all_trees(houses)] + sample_trees()[-6:]:
            for _ in range(6):
                plain = Plain(tree)
                causes = {}
                for deed in drawn_run(draw, tree, 14, 150).script:
                    if deed[0] == "make":
                        known = plain.row(deed[1])
                        causes[plain.make(*deed[1:])] = known
                    else:
                        plain.hand(*deed[1:])
                for row in plain.rows():
                    for at, line in enumerate(row):
                        self.assertLessEqual(set(causes[line]), set(row[:at]))


if __name__ == "__main__":
    unittest.main()
