"""Point [131] and the interface under neverunsaid/letters.py."""

import random
import unittest

from helpers import drawn_tree, is_int, row_tree, run_examples, snapshot, star_tree, values_of_all_kinds
from neverunsaid.letters import is_era, is_letter
from neverunsaid.texts import is_line
from neverunsaid.trees import Tree

EXAMPLES = """
>>> from neverunsaid.letters import is_era, is_letter
>>> from neverunsaid.roads import came_over, to_send
>>> from neverunsaid.trees import Tree
>>> tree, x, z = Tree(3, [(0, 1), (1, 2)]), (0, 0, "bell", "rings"), (2, 0, "door", "")
>>> [is_era((1, 7, 2)), is_era((0, 7, 2)), is_letter(tree, ("halt", (1, 2, 3))), is_letter(tree, ("halt", (1, 7, 2)))]
[True, False, True, False]
>>> [is_letter(tree, ("lines", (1, 2, 3), 1, 0, (z, x))), is_letter(tree, ("lines", (1, 2, 3), 1, 0, [z, x]))]
[True, False]
"""

X, Z, Y = (0, 0, "bell", "rings"), (2, 0, "door", ""), (0, 3, "bell", "")
ERA = (4, 2, 6)

# One letter of each kind, and in words what its items are.
LETTERS = [
    (("halt", ERA), "word era"),
    (("held", ERA, 1, 2, (X, Z)), "word era house life lines"),
    (("sure", ERA), "word era"),
    (("still", ERA, 1, 2), "word era house life"),
    (("elder", ERA), "word era"),
    (("take", ERA, 2, 0, (Z, X, Y)), "word era life count lines"),
    (("taken", ERA, 1), "word era house"),
    (("have", ERA, 1, 3), "word era house count"),
    (("lines", ERA, 1, 0, (X,)), "word era house count lines"),
]


def fits(tree, what, value):
    """Whether a value fits where an item of a letter stands, by the words of point [131]."""
    if what == "house":
        return is_int(value) and 0 <= value < tree.houses
    if what == "life":
        return is_int(value) and value >= 1
    if what == "count":
        return is_int(value) and value >= 0
    if what == "era":
        return type(value) is tuple and len(value) == 3 and all(map(fits, [tree] * 3, ["life", "house", "life"], value))
    if type(value) is not tuple or not all(is_line(line) and line[0] < tree.houses for line in value):
        return False
    return len({line[:2] for line in value}) == len(value)


def letter_by_words(tree, value):
    if type(value) is not tuple or not value:
        return False
    for letter, form in LETTERS:
        if value[0] == letter[0] and len(value) == len(letter):
            return all(fits(tree, what, item) for what, item in list(zip(form.split(), value))[1:])
    return False


class Eras(unittest.TestCase):
    def test_examples_of_the_interface(self):
        run_examples(self, EXAMPLES)

    def test_bounds(self):
        for era in ((1, 0, 1), (1, 7, 2), (10 ** 20 - 1, 10 ** 20 - 1, 10 ** 20 - 1), (5, 16, 1)):
            self.assertIs(is_era(era), True)
        for wrong in ((0, 7, 2), (1, 7, 0), (1, -1, 2), (-1, 0, 1), (1, 0, -1), (1, 0), (1, 0, 1, 1), [1, 0, 1], (), ((1, 0, 1),)):
            self.assertIs(is_era(wrong), False, wrong)

    def test_each_item_is_an_integer(self):
        for at in range(3):
            for value in values_of_all_kinds():
                era = (3, 2, 5)[:at] + (value,) + (3, 2, 5)[at + 1:]
                self.assertIs(is_era(era), is_int(value) and value >= (1, 0, 1)[at], era)

    def test_any_value(self):
        for value in values_of_all_kinds():
            before = snapshot(value)
            right = type(value) is tuple and len(value) == 3 and all(map(is_int, value)) and min(value[0], value[2]) > 0 <= value[1]
            self.assertIs(is_era(value), right, value)
            self.assertEqual(snapshot(value), before)


class Letters(unittest.TestCase):
    def test_all_nine_kinds(self):
        for tree in (row_tree(3), star_tree(16), drawn_tree(random.Random(131), 5)):
            for letter, _ in LETTERS:
                self.assertIs(is_letter(tree, letter), True, letter)
        for tree in (Tree(1, []), row_tree(2)):
            for letter, _ in LETTERS:
                self.assertIs(is_letter(tree, letter), False, letter)
                self.assertIs(is_letter(tree, (letter[0], (1, 0, 1)) + letter[2:]), letter_by_words(tree, (letter[0], (1, 0, 1)) + letter[2:]))

    def test_one_thing_changed_at_any_place(self):
        tree = row_tree(3)
        values = values_of_all_kinds() + [letter[0] for letter, _ in LETTERS] + ["Halt", "halts", "hal", "held ", (X, X), (X, X[:3] + ("!",)),
                 (X, Z, (3, 0, "a", "")), [X, Z], (X, list(Z)), (X, None), ((True, 0, "a", ""),), ((0, False, "a", ""),), (4, 3, 6), (4, 2, 0)]
        for letter, form in LETTERS:
            for at, what in enumerate(form.split()):
                for value in values:
                    near = letter[:at] + (value,) + letter[at + 1:]
                    if what == "word":
                        self.assertIs(is_letter(tree, near), letter_by_words(tree, near), near)
                    else:
                        self.assertIs(is_letter(tree, near), fits(tree, what, value), near)

    def test_another_word(self):
        tree = row_tree(3)
        for letter, _ in LETTERS:
            for other, _ in LETTERS:
                near = (other[0],) + letter[1:]
                self.assertIs(is_letter(tree, near), letter_by_words(tree, near), near)

    def test_an_item_more_or_less_and_lists(self):
        tree = row_tree(3)
        for letter, _ in LETTERS:
            for near in [letter[:many] for many in range(len(letter))] + [letter + (item,) for item in (0, 1, (), None, ERA, (X,))]:
                self.assertIs(is_letter(tree, near), False, near)
            for near in (list(letter), (letter,), (letter[0], list(ERA)) + letter[2:], (list(letter[:1]),) + letter[1:], letter[::-1]):
                self.assertIs(is_letter(tree, near), False, near)

    def test_each_number_at_its_bound_and_one_below(self):
        tree = row_tree(3)
        bounds = {"house": 0, "life": 1, "count": 0}
        for letter, form in LETTERS:
            for at, what in enumerate(form.split()):
                if what in bounds:
                    for value in (bounds[what] - 1, bounds[what], bounds[what] + 1):
                        near = letter[:at] + (value,) + letter[at + 1:]
                        self.assertIs(is_letter(tree, near), value >= bounds[what], near)
                if what == "house":
                    self.assertEqual([is_letter(tree, letter[:at] + (house,) + letter[at + 1:]) for house in (2, 3, 16, True)],
                                     [True, False, False, False])
            for at, bound in enumerate((1, 0, 1)):
                for value in (bound - 1, bound, True, None, "1"):
                    era = ERA[:at] + (value,) + ERA[at + 1:]
                    self.assertIs(is_letter(tree, (letter[0], era) + letter[2:]), is_int(value) and value >= bound)
            self.assertIs(is_letter(tree, (letter[0], (4, 3, 6)) + letter[2:]), False)

    def test_lines_of_a_letter(self):
        tree = row_tree(3)
        for lines in ((), (X,), (Z, X), (Y, X), tuple((2, number, "a", "") for number in range(120)), ((1, 10 ** 20 - 1, "a", ""),)):
            for letter, form in LETTERS:
                if form.endswith("lines"):
                    self.assertIs(is_letter(tree, letter[:-1] + (lines,)), True)
        for lines in ([], [X], (X, X), (X, Z, X[:2] + ("gate", "")), ((3, 0, "a", ""),), ((-1, 0, "a", ""),), (list(X),), (X[:3],),
                      ((0, 0, "Bell", ""),), ((0, 0, "bell", "\n"),), None, "", 0, X, (None,), ({},)):
            for letter, form in LETTERS:
                if form.endswith("lines"):
                    self.assertIs(is_letter(tree, letter[:-1] + (lines,)), False, lines)

    def test_any_value(self):
        for tree in (Tree(1, []), row_tree(3), star_tree(16)):
            for value in values_of_all_kinds():
                before = snapshot(value)
                self.assertIs(is_letter(tree, value), letter_by_words(tree, value), value)
                self.assertEqual(snapshot(value), before)


if __name__ == "__main__":
    unittest.main()
