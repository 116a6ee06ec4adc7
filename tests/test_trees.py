"""Points [3], [31] to [35] and the interface under neverunsaid/trees.py."""

import itertools
import random
import unittest

from helpers import (
    all_trees, assert_invalid, assert_told, directed_roads, is_int, naive_side, naive_way, row_tree, run_examples,
    sample_trees, star_tree, values_of_all_kinds,
)
from neverunsaid.errors import InvalidHouse, InvalidHouses, InvalidRoads, InvalidText, NotARoad, NotJoined
from neverunsaid.trees import Tree, neighbours, on_way, read_tree, side, way

EXAMPLES = """
>>> from neverunsaid.trees import Tree, neighbours, on_way, read_tree, side, way
>>> tree = Tree(5, [(0, 1), (1, 2), (1, 3), (3, 4)])
>>> [len(tree), tree.roads[2], 4 in tree, True in tree, neighbours(tree, 1)]
[5, (1, 3), True, False, [0, 2, 3]]
>>> [way(tree, 4, 0), way(tree, 2, 2), on_way(tree, 4, 0, 2), on_way(tree, 4, 0, 3)]
[(4, 3, 1, 0), (2,), False, True]
>>> [side(tree, 3, 1), side(tree, 1, 3)]
[[3, 4], [0, 1, 2]]
>>> [tree.line(), read_tree("5: 0-1 1-2 1-3 3-4") == tree, Tree(1, []).line()]
['5: 0-1 1-2 1-3 3-4', True, '1:']
>>> Tree(4, [(0, 1), (0, 2), (1, 2)])
raises NotJoined(3)
>>> side(tree, 0, 3)
raises NotARoad(0, 3)
>>> read_tree("2: 1-0")
raises InvalidText('2: 1-0')
"""


def reached_from_first(houses, roads):
    reached = {0}
    for _ in range(houses):
        reached |= {v for u, v in roads if u in reached} | {u for u, v in roads if v in reached}
    return reached


def roads_by_form(houses, value):
    if type(value) not in (list, tuple) or len(value) != houses - 1:
        return False
    for road in value:
        if type(road) is not tuple or len(road) != 2 or not all(is_int(house) for house in road):
            return False
        if not 0 <= road[0] < road[1] < houses:
            return False
    return all(value[at] < value[at + 1] for at in range(len(value) - 1))


def line_by_hand(tree):
    return " ".join([str(tree.houses) + ":"] + [str(u) + "-" + str(v) for u, v in tree.roads])


class Point31(unittest.TestCase):
    def test_examples_of_the_interface(self):
        run_examples(self, EXAMPLES)

    def test_one_to_sixteen_houses_and_no_more(self):
        for houses in range(1, 17):
            for tree in (row_tree(houses), star_tree(houses)):
                self.assertEqual((tree.houses, len(tree), len(tree.roads)), (houses, houses, houses - 1))
        for houses in [0, -1, 17, 18, 10 ** 20 - 1]:
            roads = [(house, house + 1) for house in range(min(houses, 20) - 1)]
            assert_invalid(self, InvalidHouses, houses, Tree, houses, roads)

    def test_any_number_of_houses_is_judged(self):
        for value in values_of_all_kinds():
            if not is_int(value) or not 1 <= value <= 16:
                assert_invalid(self, InvalidHouses, value, Tree, value, [])
                assert_invalid(self, InvalidHouses, value, Tree, value, None)

    def test_all_choices_of_roads_are_trees_or_not_joined(self):
        for houses in range(1, 6):
            roads = list(itertools.combinations(range(houses), 2))
            for chosen in itertools.combinations(roads, houses - 1):
                lost = sorted(set(range(houses)) - reached_from_first(houses, chosen))
                if lost:
                    assert_told(self, NotJoined(lost[0]), Tree, houses, list(chosen))
                else:
                    self.assertEqual(Tree(houses, list(chosen)).roads, chosen)

    def test_any_roads_are_judged(self):
        for value in values_of_all_kinds():
            for houses in (1, 2, 3, 4):
                if not roads_by_form(houses, value):
                    assert_invalid(self, InvalidRoads, value, Tree, houses, value)
                elif reached_from_first(houses, value) == set(range(houses)):
                    self.assertEqual(Tree(houses, value).roads, tuple(value))

    def test_any_value_as_a_road_or_in_one(self):
        for value in values_of_all_kinds():
            for roads in ([value, (1, 2)], [(0, 1), value], [(0, value), (1, 2)], [(value, 1), (1, 2)]):
                if not roads_by_form(3, roads):
                    assert_invalid(self, InvalidRoads, roads, Tree, 3, roads)

    def test_roads_more_or_less_turned_doubled_and_out_of_order(self):
        right = [(0, 1), (1, 2), (1, 3)]
        wrong = [right[:2], right + [(2, 3)], [(1, 0), (1, 2), (1, 3)], [(0, 1), (0, 1), (1, 2)], [(0, 1), (1, 3), (1, 2)],
                 [(0, 1), (1, 1), (1, 3)], [(0, 1), (1, 2), (1, 4)], [(-1, 1), (1, 2), (1, 3)], [(0, 1), (1, 2), [1, 3]],
                 [(0, 1), (1, 2), (1, 3, 3)], [(0, True), (1, 2), (1, 3)], [(False, 1), (1, 2), (1, 3)], [(0, 1), (1, 2), (1,)]]
        for roads in wrong:
            assert_invalid(self, InvalidRoads, roads, Tree, 4, roads)
            as_tuple = tuple(roads)
            assert_invalid(self, InvalidRoads, as_tuple, Tree, 4, as_tuple)

    def test_order_of_the_errors(self):
        assert_invalid(self, InvalidHouses, 17, Tree, 17, [(0, 0)])
        roads = [(0, 1), (0, 2), (1, 1)]
        assert_invalid(self, InvalidRoads, roads, Tree, 4, roads)
        assert_told(self, NotJoined(1), Tree, 5, [(0, 2), (0, 3), (1, 4), (2, 3)])

    def test_the_least_house_that_is_not_joined(self):
        assert_told(self, NotJoined(1), Tree, 4, [(1, 2), (1, 3), (2, 3)])
        assert_told(self, NotJoined(2), Tree, 5, [(0, 1), (2, 3), (2, 4), (3, 4)])
        assert_told(self, NotJoined(15), Tree, 16, [(0, house) for house in range(1, 15)] + [(1, 2)])

    def test_values_in_a_tree(self):
        for tree in (row_tree(1), row_tree(3), star_tree(16)):
            for value in values_of_all_kinds():
                self.assertIs(value in tree, is_int(value) and 0 <= value < tree.houses)

    def test_trees_are_equal_by_houses_and_roads(self):
        trees = [tree for houses in range(1, 5) for tree in all_trees(houses)]
        for at, tree in enumerate(trees):
            for place, other in enumerate(trees):
                self.assertIs(tree == other, at == place)
                self.assertIs(tree != other, at != place)
            self.assertTrue(tree == Tree(houses=tree.houses, roads=list(tree.roads)))
            self.assertTrue(tree == Tree(tree.houses, tree.roads))
            for value in values_of_all_kinds() + [(tree.houses, tree.roads), tree.roads, tree.houses]:
                if not isinstance(value, Tree):
                    self.assertIs(tree == value, False)

    def test_a_changed_list_changes_no_tree(self):
        roads = [(0, 1), (1, 2)]
        tree = Tree(3, roads)
        roads[0] = (0, 2)
        roads.append(None)
        self.assertEqual((tree.roads, way(tree, 0, 2)), (((0, 1), (1, 2)), (0, 1, 2)))
        self.assertIs(type(tree.roads), tuple)


class Points32To34(unittest.TestCase):
    def test_neighbours(self):
        for tree in sample_trees():
            for house in range(tree.houses):
                joined = [v for u, v in directed_roads(tree) if u == house]
                self.assertEqual(neighbours(tree, house), sorted(joined))

    def test_ways(self):
        for tree in sample_trees():
            for a, b in itertools.product(range(tree.houses), repeat=2):
                wanted = naive_way(tree, a, b)
                self.assertEqual(way(tree, a, b), wanted)
                self.assertIs(type(way(tree, a, b)), tuple)
                for house in range(tree.houses):
                    self.assertIs(on_way(tree, a, b, house), house in wanted)

    def test_sides(self):
        for tree in sample_trees():
            for u, v in directed_roads(tree):
                self.assertEqual(side(tree, u, v), naive_side(tree, u, v))
                self.assertEqual(sorted(side(tree, u, v) + side(tree, v, u)), list(range(tree.houses)))

    def test_lists_are_new_on_each_call(self):
        tree = row_tree(4)
        for function, houses in ((neighbours, (1,)), (side, (1, 2))):
            first = function(tree, *houses)
            kept = list(first)
            first.append(7)
            self.assertEqual(function(tree, *houses), kept)
        self.assertEqual(tree, row_tree(4))

    def test_wrong_houses(self):
        tree = row_tree(3)
        for value in values_of_all_kinds():
            if is_int(value) and 0 <= value < 3:
                continue
            assert_invalid(self, InvalidHouse, value, neighbours, tree, value)
            assert_invalid(self, InvalidHouse, value, way, tree, value, [])
            assert_invalid(self, InvalidHouse, value, way, tree, 0, value)
            assert_invalid(self, InvalidHouse, value, on_way, tree, value, [], {})
            assert_invalid(self, InvalidHouse, value, on_way, tree, 1, value, 3)
            assert_invalid(self, InvalidHouse, value, on_way, tree, 2, 2, value)
            assert_invalid(self, InvalidHouse, value, side, tree, value, [])
            assert_invalid(self, InvalidHouse, value, side, tree, 0, value)

    def test_houses_that_are_no_neighbours(self):
        for tree in sample_trees():
            for u, v in itertools.product(range(tree.houses), repeat=2):
                if (u, v) not in directed_roads(tree):
                    assert_told(self, NotARoad(u, v), side, tree, u, v)


class Point35(unittest.TestCase):
    def test_lines_and_back(self):
        for tree in sample_trees():
            self.assertEqual(tree.line(), line_by_hand(tree))
            self.assertEqual(read_tree(tree.line()), tree)
            self.assertEqual(read_tree(text=tree.line()).roads, tree.roads)

    def test_every_single_change_of_a_line(self):
        trees = {line_by_hand(tree): tree for houses in range(1, 6) for tree in all_trees(houses)}
        for text in [line for line in trees if trees[line].houses < 5]:
            changed = [text[:at] + text[at + 1:] for at in range(len(text))]
            for sign in list("01234569 +-:a") + ["\n", "\t"]:
                changed += [text[:at] + sign + text[at:] for at in range(len(text) + 1)]
                changed += [text[:at] + sign + text[at + 1:] for at in range(len(text))]
            for near in changed:
                if near in trees:
                    self.assertEqual(read_tree(near), trees[near])
                else:
                    assert_invalid(self, InvalidText, near, read_tree, near)

    def test_nearly_right_lines(self):
        wrong = ["", ":", "1", "1: ", " 1:", "1:\n", "01:", "+1:", "-1:", "0:", "17:", "2:", "2: 0-1 ", "2:0-1", "2:  0-1", "2: 0 1",
                 "2: 00-1", "2: 0-01", "2: 0-+1", "2: 0--1", "2: 0-1-", "2: 1-0", "2: 0-0", "2: 0-2", "2: 0-1 0-1", "3: 0-1",
                 "3: 0-1 0-1", "3: 1-2 0-1", "3: 0-1 1-2 0-2", "3: 0-1\t1-2", "3: 0-1,1-2", "4: 0-1 0-2 1-2", "2; 0-1", "2: a-b",
                 "3: (0, 1) (1, 2)", "2: 0-1\n", "02: 0-1", "2 : 0-1", "2: -1", "2: 0-", "2: -", "2: 0 - 1", "\u0662: 0-1"]
        wrong.append("17: " + " ".join(f"{house}-{house + 1}" for house in range(16)))
        for text in wrong:
            assert_invalid(self, InvalidText, text, read_tree, text)

    def test_values_that_are_no_lines_of_trees(self):
        for value in values_of_all_kinds():
            if value not in ("1:", "2: 0-1") or type(value) is not str:
                assert_invalid(self, InvalidText, value, read_tree, value)

    def test_drawn_lines_out_of_order(self):
        draw = random.Random(5)
        for tree in sample_trees():
            roads = list(tree.roads)
            draw.shuffle(roads)
            text = str(tree.houses) + ":" + "".join(f" {u}-{v}" for u, v in roads)
            if roads != list(tree.roads):
                assert_invalid(self, InvalidText, text, read_tree, text)


if __name__ == "__main__":
    unittest.main()
