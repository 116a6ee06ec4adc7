"""Points [181] to [183] and the interface under neverunsaid/views.py."""

import random
import unittest

from helpers import (
    assert_invalid, assert_told, directed_roads, drawn_run, drawn_tree, naive_side, not_rows, row_tree, run_examples,
    snapshot, spoiled, star_tree, values_of_all_kinds,
)
from neverunsaid.errors import Faulty, InvalidCell, InvalidKinds, InvalidLines, InvalidRows, NotWhole
from neverunsaid.plain import Plain
from neverunsaid.standings import is_rows, is_standing_fault, standing_fault
from neverunsaid.texts import is_cell, is_line
from neverunsaid.trees import Tree
from neverunsaid.views import alike, is_kinds, parting, view, views

EXAMPLES = """
>>> from neverunsaid.trees import Tree
>>> from neverunsaid.views import alike, is_kinds, parting, view, views
>>> [is_kinds([]), is_kinds([("bell", "last"), ("door", "sum")]), is_kinds([("door", "sum"), ("bell", "last")])]
[True, True, False]
>>> book = [(0, 0, "bell", "two"), (1, 0, "door", "12"), (2, 1, "bell", "one"), (1, 1, "door", "-05"), (2, 0, "bell", "two")]
>>> views([("bell", "most"), ("door", "sum"), ("gate", "last")], book)
[('bell', 'two'), ('door', 7), ('gate', None)]
>>> [view([("bell", "set")], book, "bell"), view([("bell", "row")], book, "bell"), view([("door", "last")], book, "door")]
[['one', 'two'], ['two', 'two', 'one'], '-05']
>>> tree, x, z = Tree(3, [(0, 1), (1, 2)]), (0, 0, "bell", "one"), (2, 0, "bell", "two")
>>> rows = [[x, z], [x, z], [z, x]]
>>> [alike(tree, rows, "bell"), parting(tree, rows, "bell"), alike(tree, rows, "door"), parting(tree, [[z, x], [z, x], [z, x]], "bell")]
[False, (1, 2), True, None]
>>> alike(tree, [[x], [x, z], [z]], "bell")
raises NotWhole(0)
>>> view([("bell", "set")], book, "door")
raises InvalidCell('door')
"""

KINDS = ["last", "sum", "set", "row", "most"]
TEXTS = ["", "0", "7", "-7", "12", "-05", "0012", "00000000000000000000", "99999999999999999999", "-99999999999999999999",
         "099999999999999999999", "123456789012345678901", "-123456789012345678901", "-", "--7", "7-", "-7-", "+7", " 7", "7 ", "- 7", "1_0",
         "1.0", "0x1", "1e3", "seven", "-0", "1 2", "1,2"]


def kinds_by_form(value):
    if type(value) not in (list, tuple):
        return False
    for item in value:
        if type(item) is not tuple or len(item) != 2 or not is_cell(item[0]) or item[1] not in KINDS:
            return False
    cells = [cell for cell, _ in value]
    return cells == sorted(set(cells))


def lines_by_form(value):
    return type(value) in (list, tuple) and all(is_line(line) for line in value) and len({line[:2] for line in value}) == len(value)


def number_by_words(text):
    figures = text[1:] if text[:1] == "-" else text
    if not 1 <= len(figures) <= 20 or any(sign not in "0123456789" for sign in figures):
        return 0
    number = sum("0123456789".index(sign) * 10 ** place for place, sign in enumerate(reversed(figures)))
    return -number if text[0] == "-" else number


def view_by_words(kind, lines, cell):
    mine = [line for line in lines if line[2] == cell]
    texts = [line[3] for line in mine]
    if kind == "sum":
        return sum(number_by_words(text) for text in texts)
    if kind == "set":
        return sorted(set(texts))
    if kind == "row":
        return [line[3] for line in sorted(mine, key=lambda line: line[:2])]
    if kind == "last":
        return texts[-1] if texts else None
    return min(texts, key=lambda text: (-texts.count(text), text)) if texts else None


def drawn_book(draw):
    keys = draw.sample([(home, number) for home in range(4) for number in range(4)], draw.randrange(12))
    return [key + (draw.choice(["a", "bell"]), draw.choice(TEXTS[:draw.choice([3, 6, len(TEXTS)])])) for key in keys]


class Point181(unittest.TestCase):
    def test_examples_of_the_interface(self):
        run_examples(self, EXAMPLES)

    def test_judging_kinds(self):
        right = [[], (), [("bell", "last")], (("a", "sum"), ("b", "sum")), [(cell, kind) for cell, kind in zip("abcde", KINDS)]]
        wrong = [[("a", "sum"), ("a", "last")], [("b", "sum"), ("a", "sum")], [["a", "sum"]], [("a", "Sum")], [("a", "first")], [("a",)],
                 [("a", "sum", "x")], [("A", "sum")], [("", "sum")], [("ninelette", "sum")], ("a", "sum"), {"a": "sum"}, [("a", None)],
                 [("a", ["sum"])], [(1, "sum")], "sum", [("a", "sum"), None], [("a", True)], [("a", "")], [("a", "su")], [("a", "sums")]]
        self.assertEqual([is_kinds(value) for value in right], [True] * len(right))
        self.assertEqual([is_kinds(value) for value in wrong], [False] * len(wrong))
        values = values_of_all_kinds()
        for value in values + [[(value, "sum")] for value in values] + [[("a", value)] for value in values]:
            before = snapshot(value)
            self.assertIs(is_kinds(value), kinds_by_form(value), value)
            self.assertEqual(snapshot(value), before)

    def test_each_kind_by_hand(self):
        book = [(2, 0, "a", "5"), (0, 1, "a", "x"), (0, 0, "a", "-7"), (1, 0, "b", "9"), (2, 1, "a", "x"), (1, 1, "a", "5")]
        wanted = {"last": "5", "sum": 3, "set": ["-7", "5", "x"], "row": ["-7", "x", "5", "5", "x"], "most": "5"}
        none = {"last": None, "sum": 0, "set": [], "row": [], "most": None}
        for kind in KINDS:
            for lines in (book, tuple(book)):
                self.assertEqual(view([("a", kind)], lines, "a"), wanted[kind])
                self.assertEqual(view((("a", "set"), ("c", kind)), lines, "c"), none[kind])
                self.assertEqual(view([("a", kind)], [], "a"), none[kind])

    def test_sums_of_texts(self):
        for text in TEXTS:
            self.assertEqual(view([("a", "sum")], [(0, 0, "a", text)], "a"), number_by_words(text), text)
        numbers = {"": 0, "7": 7, "-7": -7, "-05": -5, "0012": 12, "-0": 0, "--7": 0, "7-": 0, "+7": 0, " 7": 0, "-": 0,
                   "99999999999999999999": 10 ** 20 - 1, "-99999999999999999999": 1 - 10 ** 20, "123456789012345678901": 0,
                   "000000000000000000007": 0, "-00000000000000000007": -7, "-000000000000000000007": 0}
        for text, number in numbers.items():
            self.assertEqual(view([("a", "sum")], [(0, 0, "a", text)], "a"), number, text)
        book = [(0, number, "a", text) for number, text in enumerate(numbers)]
        self.assertEqual(view([("a", "sum")], book, "a"), sum(numbers.values()))

    def test_several_texts_equally_often(self):
        for texts, most in ((["b", "a"], "a"), (["b", "a", "b", "a", "c"], "a"), (["b", "a", "b"], "b"), (["", "a"], ""), (["10", "9"], "10"),
                            ([" ", ""], ""), (["~", "z", "~", "z"], "z")):
            book = [(0, number, "a", text) for number, text in enumerate(texts)]
            self.assertEqual(view([("a", "most")], book, "a"), most)

    def test_drawn_books(self):
        draw = random.Random(181)
        for _ in range(500):
            book = drawn_book(draw)
            kinds = [(cell, draw.choice(KINDS)) for cell in ("a", "b", "bell", "c") if draw.random() < 0.7]
            told = views(kinds, book)
            self.assertEqual(repr(told), repr([(cell, view_by_words(kind, book, cell)) for cell, kind in kinds]))
            self.assertEqual(told, [(cell, view(kinds, book, cell)) for cell, _ in kinds])

    def test_lines_mixed_anew_tell_the_same_but_the_last_one(self):
        draw = random.Random(1810)
        lasts = 0
        for _ in range(200):
            book = drawn_book(draw)
            mixed = list(book)
            draw.shuffle(mixed)
            for kind in KINDS[1:]:
                kinds = [("a", kind), ("bell", kind)]
                self.assertEqual(views(kinds, mixed), views(kinds, book))
            lasts += view([("a", "last")], mixed, "a") != view([("a", "last")], book, "a")
        self.assertGreater(lasts, 20)

    def test_wrong_values_alone_and_together(self):
        kinds, book = [("bell", "set")], [(0, 0, "bell", "x")]
        near = [[("bell", "set"), ("a", "set")], [("bell", "sets")], [["bell", "set"]]]
        for value in values_of_all_kinds() + near:
            if not kinds_by_form(value):
                for lines, cell in ((book, "bell"), (None, None), ([book], "")):
                    assert_invalid(self, InvalidKinds, value, view, value, lines, cell)
                    assert_invalid(self, InvalidKinds, value, views, value, lines)
        near = [[book[0], (0, 0, "door", "")], [book[0], book[0]], [list(book[0])], [book[0], None]]
        for value in values_of_all_kinds() + near:
            if not lines_by_form(value):
                for cell in ("bell", "door", None):
                    assert_invalid(self, InvalidLines, value, view, kinds, value, cell)
                assert_invalid(self, InvalidLines, value, views, kinds, value)
        for value in values_of_all_kinds():
            if value != "bell":
                assert_invalid(self, InvalidCell, value, view, kinds, book, value)
            assert_invalid(self, InvalidCell, value, view, [], book, value)

    def test_lists_are_new_and_arguments_stay(self):
        kinds, book = [("a", "set"), ("b", "row"), ("c", "set")], [(0, 1, "a", "x"), (0, 0, "b", "y"), (1, 0, "a", "w")]
        before = snapshot([kinds, book])
        told = views(kinds, book)
        for _, one in told:
            one.append("more")
        told.clear()
        self.assertEqual(views(kinds, book), [("a", ["w", "x"]), ("b", ["y"]), ("c", [])])
        view(kinds, book, "a").clear()
        self.assertEqual(view(kinds, book, "a"), ["w", "x"])
        self.assertEqual(snapshot([kinds, book]), before)
        book.append((2, 0, "a", "v"))
        self.assertEqual(view(kinds, book, "a"), ["v", "w", "x"])


def last_by_words(row, cell):
    found = [line for line in row if line[2] == cell]
    return found[-1] if found else None


def parting_by_words(tree, rows, cell):
    """All roads that part the last lines of a cell, by the words of point [182]."""
    lasts = [last_by_words(row, cell) for row in rows]
    found = []
    for u, v in tree.roads:
        near = {lasts[house] for house in naive_side(tree, u, v)}
        far = {lasts[house] for house in naive_side(tree, v, u)}
        if len(near) == len(far) == 1 and near != far:
            found.append((u, v))
    return found


def whole_run(draw, tree, lines):
    """A plain store in which all lines that were made have come to all houses."""
    plain = drawn_run(draw, tree, lines, draw.randrange(40))
    while True:
        ready = [road for road in directed_roads(tree) if plain.under_way(*road)]
        if not ready:
            return plain
        plain.hand(*draw.choice(ready))


class Points182And183(unittest.TestCase):
    def test_standings_in_which_all_rows_have_the_same_lines(self):
        draw = random.Random(182)
        seen = {"alike": 0, "parted": 0, "none": 0}
        for _ in range(400):
            tree = drawn_tree(draw, draw.choice([1, 2, 3, 4, 5, 8]))
            rows = whole_run(draw, tree, draw.randrange(9)).rows()
            for cell in ("a", "bell", "door", "none"):
                lasts = [last_by_words(row, cell) for row in rows]
                roads = parting_by_words(tree, rows, cell)
                same = len(set(lasts)) == 1
                self.assertIs(alike(tree, rows, cell), same)
                self.assertEqual(parting(tree, rows, cell), None if same else roads[0])
                self.assertEqual(len(roads), 0 if same else 1)
                self.look_at_two(tree, rows, lasts, roads)
                seen["none" if lasts[0] is None else "alike" if same else "parted"] += 1
        self.assertGreater(min(seen.values()), 60)

    def look_at_two(self, tree, rows, lasts, roads):
        """Point [183]: at most two last lines; each was made where the other one is the last."""
        self.assertLessEqual(len(set(lasts)), 2)
        for u, v in roads:
            self.assertIn(lasts[u][0], naive_side(tree, v, u))
            self.assertIn(lasts[v][0], naive_side(tree, u, v))
        if lasts[0] is not None:
            self.assertEqual(len(set(lasts)) == 1, any(last[0] == house for house, last in enumerate(lasts)))

    def test_sixteen_houses_with_one_hundred_and_twenty_lines(self):
        draw = random.Random(1820)
        for tree in (row_tree(16), star_tree(16)):
            plain = drawn_run(draw, tree, 120, 400)
            while any(plain.under_way(*road) for road in directed_roads(tree)):
                for road in directed_roads(tree):
                    if plain.under_way(*road):
                        plain.hand(*road)
            rows = plain.rows()
            for cell in ("a", "bell", "door"):
                roads = parting_by_words(tree, rows, cell)
                self.assertEqual(parting(tree, rows, cell), roads[0] if roads else None)

    def test_no_line_of_the_cell(self):
        for tree in (Tree(1, []), row_tree(3)):
            empty = [[] for _ in range(tree.houses)]
            self.assertEqual((alike(tree, empty, "bell"), parting(tree, empty, "bell")), (True, None))
            whole = [[(0, 0, "door", "")] for _ in range(tree.houses)]
            self.assertEqual((alike(tree, tuple(whole), "bell"), parting(tree, whole, "bell")), (True, None))
            self.assertEqual((alike(tree, whole, "door"), parting(tree, whole, "door")), (True, None))

    def test_lines_that_are_alike_but_for_their_keys_part(self):
        x, z = (0, 0, "bell", "x"), (1, 0, "bell", "x")
        tree = row_tree(2)
        self.assertEqual((alike(tree, [[x, z], [z, x]], "bell"), parting(tree, [[x, z], [z, x]], "bell")), (False, (0, 1)))

    def test_rows_that_are_none(self):
        for tree in (Tree(1, []), row_tree(3)):
            for value in not_rows(tree):
                for cell in ("bell", None):
                    assert_invalid(self, InvalidRows, value, alike, tree, value, cell)
                    assert_invalid(self, InvalidRows, value, parting, tree, value, cell)

    def test_rows_with_a_fault_ahead_of_all_that_is_left(self):
        draw = random.Random(1821)
        faults = 0
        while faults < 150:
            tree = drawn_tree(draw, draw.choice([1, 2, 3, 4]))
            rows = drawn_run(draw, tree, 6, 30).rows()
            rows = spoiled(draw, rows) if any(rows) else rows
            if not is_rows(tree, rows) or standing_fault(tree, rows) is None:
                continue
            faults += 1
            for call in (alike, parting):
                for cell in ("bell", 3):
                    with self.assertRaises(Faulty) as caught:
                        call(tree, rows, cell)
                    self.assertIs(is_standing_fault(tree, rows, caught.exception.fault), True)

    def test_rows_that_lack_a_line(self):
        draw = random.Random(1822)
        lacked = 0
        for _ in range(200):
            tree = drawn_tree(draw, draw.choice([2, 3, 4, 5]))
            rows = drawn_run(draw, tree, 5, draw.randrange(3, 12)).rows()
            lines = {line for row in rows for line in row}
            lacking = [house for house, row in enumerate(rows) if set(row) != lines]
            for call in (alike, parting):
                if lacking:
                    for cell in ("bell", "", None):
                        assert_told(self, NotWhole(lacking[0]), call, tree, rows, cell)
            lacked += bool(lacking)
        self.assertGreater(lacked, 100)
        x, z = (0, 0, "a", ""), (2, 0, "a", "")
        # Each has as many lines as the others, and all lack one.
        assert_told(self, NotWhole(0), alike, row_tree(3), [[x], [], [z]], "a")
        assert_told(self, NotWhole(0), parting, row_tree(2), [[x], [(1, 0, "a", "")]], "a")
        assert_told(self, NotWhole(1), parting, row_tree(3), [[x], [], []], "a")
        plain = Plain(row_tree(3))
        plain.make(1, "a", "")
        plain.hand(1, 0)
        assert_told(self, NotWhole(2), parting, row_tree(3), plain.rows(), "a")

    def test_values_that_are_no_cell(self):
        rows = [[(0, 0, "bell", "")]] * 3
        for value in values_of_all_kinds():
            if not is_cell(value):
                assert_invalid(self, InvalidCell, value, alike, row_tree(3), rows, value)
                assert_invalid(self, InvalidCell, value, parting, row_tree(3), rows, value)
            else:
                self.assertIs(alike(row_tree(3), rows, value), True)

    def test_arguments_stay(self):
        x, z = (0, 0, "bell", "one"), (2, 0, "bell", "two")
        rows = [[x, z], (x, z), [z, x]]
        before = snapshot(rows)
        self.assertEqual((alike(row_tree(3), rows, "bell"), parting(row_tree(3), rows, "bell")), (False, (1, 2)))
        self.assertEqual(snapshot(rows), before)
        rows[2].reverse()
        self.assertIsNone(parting(row_tree(3), rows, "bell"))


if __name__ == "__main__":
    unittest.main()
