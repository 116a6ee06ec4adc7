"""The first sentence of point [151] and the interface under neverunsaid/mending.py, as far as it stands without houses."""

import random
import unittest

from helpers import assert_invalid, drawn_tree, not_houses, row_tree, run_examples, star_tree
from neverunsaid.errors import InvalidHouse
from neverunsaid.mending import wait_of
from neverunsaid.trees import Tree

EXAMPLES = """
>>> from neverunsaid.mending import wait_of
>>> from neverunsaid.trees import Tree
>>> tree, era = Tree(2, [(0, 1)]), (3, 0, 5)
>>> [wait_of(tree, 0), wait_of(tree, 1)]
[10, 13]
"""


class Waits(unittest.TestCase):
    def test_examples_of_the_interface(self):
        run_examples(self, EXAMPLES)

    def test_eight_and_the_houses_and_three_times_the_house(self):
        for houses in range(1, 17):
            for tree in (row_tree(houses), star_tree(houses), drawn_tree(random.Random(houses), houses)):
                self.assertEqual([wait_of(tree, house) for house in range(houses)],
                                 [8 + houses + 3 * house for house in range(houses)])
        self.assertEqual((wait_of(Tree(1, []), 0), wait_of(row_tree(16), 15)), (9, 69))

    def test_wrong_houses(self):
        for tree in (Tree(1, []), row_tree(3), star_tree(16)):
            for value in not_houses(tree):
                assert_invalid(self, InvalidHouse, value, wait_of, tree, value)


if __name__ == "__main__":
    unittest.main()
