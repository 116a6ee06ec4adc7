"""Points [192] and [193] and the interface under neverunsaid/story.py."""

import copy
import unittest

from helpers import directed_roads, drawn_tree, naive_side, row_tree, run_examples, snapshot, star_tree, values_of_all_kinds
from models import MOODS, do, drawn_act, lines_in, seeded
from neverunsaid.calm import settle
from neverunsaid.examiner import rows_left
from neverunsaid.plain import Plain, run_plain
from neverunsaid.story import explained, gone, is_explained, made
from neverunsaid.trees import Tree
from neverunsaid.worlds import World
from search import begin_with, next_deeds, standings_from

EXAMPLES = """
>>> from neverunsaid.calm import settle
>>> from neverunsaid.story import explained, gone, is_explained, made
>>> from neverunsaid.trees import Tree
>>> from neverunsaid.worlds import World
>>> world = World(Tree(2, [(0, 1)]))
>>> [settle(world), world.write(1, "bell", "rings"), made(world), gone(world)]
[14, (1, 0, 'bell', 'rings'), [(1, 0, 'bell', 'rings')], []]
>>> explained(world)
([[], [(1, 0, 'bell', 'rings')]], [('make', 1, 'bell', 'rings')])
>>> [is_explained(world, ([[], [(1, 0, "bell", "rings")]], [("make", 1, "bell", "rings")])), is_explained(world, ([[], []], []))]
[True, False]
>>> [world.stop(1, 0), world.cut(1, 5), explained(world), gone(world)]
[None, None, ([[], []], []), [(1, 0, 'bell', 'rings')]]
"""


def drawn_world(number, most_houses=5, most_lines=16, acts=200):
    draw = seeded(192, number)
    world = World(drawn_tree(draw, draw.randrange(1, most_houses + 1)))
    if draw.random() < 0.85:
        settle(world)
    for _ in range(draw.randrange(acts)):
        do(world, drawn_act(draw, world, MOODS[number % len(MOODS)], most_lines))
        if draw.random() < 0.004:
            settle(world)
    return world


def books_that_stand(world):
    houses = [world.house(h) for h in range(world.tree.houses)]
    return {house.number: list(house.book) for house in houses if house and house.stage == "standing"}


def other_scripts(draw, tree, rows, many):
    """Scripts that lead to a standing, each with its deeds in an order that is drawn."""
    sides = {road: naive_side(tree, *road) for road in directed_roads(tree)}
    lines = sorted({line for row in rows for line in row})
    for _ in range(many):
        now, script = tuple(() for _ in rows), []
        while [list(row) for row in now] != [list(row) for row in rows]:
            ready = [later for later in next_deeds(tree, sides, now, lines)
                     if all(tuple(row[:len(one)]) == one for row, one in zip(rows, later))]
            later = draw.choice(ready)
            house = [h for h in range(tree.houses) if later[h] != now[h]][0]
            line = later[house][-1]
            if line[0] == house:
                script.append(("make", house, line[2], line[3]))
            else:
                u = [u for u in range(tree.houses) if (u, house) in sides and line[0] in sides[(u, house)]][0]
                script.append(("hand", u, house))
            now = later
        yield script


class Point192(unittest.TestCase):
    def test_examples_of_the_interface(self):
        run_examples(self, EXAMPLES)

    def test_what_explains_drawn_worlds(self):
        stood = 0
        for number in range(120):
            world = drawn_world(number)
            tree, left = world.tree, rows_left(world)
            told = explained(world)
            self.assertEqual((type(told), len(told), type(told[0]), type(told[1])), (tuple, 2, list, list))
            rows, script = told
            self.assertTrue(begin_with(rows, left))
            self.assertEqual(run_plain(tree, script).rows(), rows)
            for h, book in books_that_stand(world).items():
                self.assertEqual(rows[h], book)
                stood += len(book) > 0
            self.assertEqual(explained(world), told)
            self.assertIs(is_explained(world, told), True)
            self.assertIs(is_explained(world, (tuple(map(tuple, rows)), tuple(script))), True)
        self.assertGreater(stood, 40)

    def test_as_few_lines_as_may_be_by_a_search_through_all_standings(self):
        looked = 0
        for number in range(150):
            world = drawn_world(1000 + number, 4, 4, 160)
            found = standings_from(world.tree, rows_left(world))
            rows, _ = explained(world)
            self.assertIn(tuple(map(tuple, rows)), found)
            self.assertEqual([len(row) for row in rows], [min(len(one[h]) for one in found) for h in range(world.tree.houses)])
            looked += len(found) > 1
        self.assertGreater(looked, 20)

    def test_all_that_explains_and_what_does_not(self):
        told = {True: 0, False: 0}
        for number in range(60):
            draw = seeded(1920, number)
            world = drawn_world(2000 + number, 4, 4, 160)
            tree = world.tree
            found = standings_from(tree, rows_left(world))
            least = [min(len(one[h]) for one in found) for h in range(tree.houses)]
            for rows in found[:30]:
                right = [len(row) for row in rows] == least
                for script in other_scripts(draw, tree, rows, 2):
                    told[right] += 1
                    self.assertIs(is_explained(world, ([list(row) for row in rows], script)), right)
        self.assertGreater(min(told.values()), 40)

    def test_one_thing_changed(self):
        changed = 0
        for number in range(40):
            world = drawn_world(3000 + number, 4, 8, 200)
            rows, script = explained(world)
            for near in self.nearly(world, rows, script):
                changed += 1
                before = snapshot(near)
                self.assertIs(is_explained(world, near), False, near)
                self.assertEqual(snapshot(near), before)
        self.assertGreater(changed, 400)

    def nearly(self, world, rows, script):
        yield from [[rows, script], (rows,), (rows, script, []), (script, rows) if script else None, (rows, None), (None, script), ()]
        yield from [(rows + [[]], script), (rows[1:], script), (rows, script + [("hand", 0, 0)]), (rows, script + [("make", 0, "a", "")])]
        yield (rows, {"a": script})
        for at in range(len(script)):
            deed = script[at]
            yield (rows, script[:at] + script[at + 1:])
            yield (rows, script[:at] + [list(deed)] + script[at + 1:])
            yield (rows, script[:at] + [deed] + script[at:])
            yield (rows, script[:at] + [deed[:1] + (bool(deed[1]),) + deed[2:]] + script[at + 1:])
        for h, row in enumerate(rows):
            for at, line in enumerate(row):
                for other in ((), (line, line), (line[:3] + (line[3][:-1] + "!",),), (list(line),)):
                    yield (rows[:h] + [row[:at] + list(other) + row[at + 1:]] + rows[h + 1:], script)
            yield (rows[:h] + [row + [(h, 99, "a", "")]] + rows[h + 1:], script)

    def test_any_value(self):
        for world in (World(Tree(1, [])), drawn_world(7), drawn_world(8)):
            rows, script = explained(world)
            for value in values_of_all_kinds():
                for one in (value, (value, []), ([[] for _ in rows], value), (value, value)):
                    before = snapshot(one)
                    right = is_pair_of_lists(one) and [list(row) for row in one[0]] == rows and list(one[1]) == script
                    self.assertIs(is_explained(world, one), right, one)
                    self.assertEqual(snapshot(one), before)

    def test_an_empty_world(self):
        for tree in (Tree(1, []), row_tree(3), star_tree(16)):
            world = World(tree)
            self.assertEqual(explained(world), ([[] for _ in range(tree.houses)], []))
            self.assertEqual((made(world), gone(world)), ([], []))

    def test_a_house_that_is_down_and_cut_amid_a_mending(self):
        tree = row_tree(3)
        world = World(tree)
        settle(world)
        x = world.write(0, "bell", "x")
        settle(world)
        for h in (0, 1):
            world.stop(h, 0)
            world.cut(h, 0)
        self.assertEqual(explained(world), ([[x], [x], [x]], [("make", 0, "bell", "x"), ("hand", 0, 1), ("hand", 1, 2)]))
        world.rise(0)
        world.rise(1)
        world.tick(0)
        self.assertEqual(explained(world)[0], [[x], [x], [x]])
        world.stop(2, 0)
        world.cut(2, 0)
        self.assertEqual((explained(world), gone(world)), (([[], [], []], []), [x]))

    def test_lists_are_new_and_the_world_stays(self):
        world = drawn_world(11)
        before = copy.deepcopy([explained(world), rows_left(world), world.acts, world.letters, made(world)])
        rows, script = explained(world)
        self.assertEqual(len({id(row) for row in rows}), len(rows))
        for row in rows:
            row.append("more")
        rows.clear()
        script.clear()
        made(world).clear()
        gone(world).clear()
        self.assertEqual([explained(world), rows_left(world), world.acts, world.letters, made(world)], before)

    def test_sixteen_houses_and_one_hundred_and_twenty_lines(self):
        for tree in (row_tree(16), star_tree(16)):
            draw = seeded(12, tree.line())
            world = World(tree)
            settle(world)
            for number in range(120):
                world.write(draw.randrange(16), "bell", "x" * 40)
            settle(world)
            for whole in (True, False):
                rows, script = explained(world)
                self.assertEqual(run_plain(tree, script).rows(), rows)
                self.assertEqual(len(script), sum(map(len, rows)))
                self.assertIs(is_explained(world, (rows, script)), True)
                for h in range(16 if whole else 0):
                    world.stop(h, 0)
                    world.cut(h, draw.randrange(len(world.disk(h).text) + 1))

    def test_scripts_of_more_than_two_thousand_deeds(self):
        tree = star_tree(16)
        world = World(tree)
        settle(world)
        for number in range(130):
            world.write(number % 16, "bell", "")
        settle(world)
        rows, script = explained(world)
        self.assertEqual(len(script), 2080)
        self.assertIs(is_explained(world, (rows, script)), True)


def is_pair_of_lists(value):
    if type(value) is not tuple or len(value) != 2 or not all(type(part) in (list, tuple) for part in value):
        return False
    return all(type(row) in (list, tuple) for row in value[0])


class Point193(unittest.TestCase):
    def test_made_and_gone_behind_drawn_acts(self):
        lost = 0
        for number in range(100):
            draw = seeded(193, number)
            world = World(drawn_tree(draw, draw.choice([1, 2, 3, 4])))
            settle(world)
            lines = set()
            for _ in range(150):
                told = do(world, drawn_act(draw, world, MOODS[number % len(MOODS)]))
                lines |= {told} if told else set()
            left = {line for h in range(world.tree.houses) for line in lines_in(world.disk(h).text)}
            self.assertEqual((made(world), gone(world)), (sorted(lines), sorted(lines - left)))
            self.assertLessEqual(left, lines)
            lost += len(lines - left) > 0
        self.assertGreater(lost, 20)

    def test_two_lines_of_one_key_and_one_line_twice(self):
        world = World(Tree(1, []))
        settle(world)
        for text in ("two", "two", "one"):
            world.write(0, "bell", text)
            world.stop(0, 0)
            world.cut(0, 0)
            world.rise(0)
            settle(world)
        lines = [(0, 0, "bell", "one"), (0, 0, "bell", "two")]
        self.assertEqual((made(world), gone(world)), (lines, lines))
        self.assertEqual(world.write(0, "bell", "two"), lines[1])
        self.assertEqual((made(world), gone(world)), (lines, lines[:1]))
        self.assertEqual(explained(world), ([[lines[1]]], [("make", 0, "bell", "two")]))

    def test_only_acts_that_were_done_make_lines(self):
        world = World(row_tree(2))
        for h in (0, 1):
            with self.assertRaises(ValueError):
                world.write(h, "bell", "")
        settle(world)
        for cell, text in (("Bell", ""), ("bell", None)):
            with self.assertRaises(ValueError):
                world.write(1, cell, text)
        self.assertEqual(made(world), [])
        self.assertEqual([world.write(h, "bell", "") for h in (1, 1, 0)], [(1, 0, "bell", ""), (1, 1, "bell", ""), (0, 0, "bell", "")])
        self.assertEqual(made(world), [(0, 0, "bell", ""), (1, 0, "bell", ""), (1, 1, "bell", "")])

    def test_all_disks_empty(self):
        world = World(row_tree(3))
        settle(world)
        lines = [world.write(h, "a", str(h)) for h in (2, 0, 1, 2)]
        settle(world)
        for h in range(3):
            world.stop(h, 0)
            world.cut(h, 0)
            self.assertEqual(gone(world), sorted(lines) if h == 2 else [])
        self.assertEqual((made(world), explained(world)), (sorted(lines), ([[], [], []], [])))

    def test_a_line_that_another_disk_holds_is_not_gone(self):
        world = World(row_tree(2))
        settle(world)
        x = world.write(0, "a", "x")
        settle(world)
        z = world.write(0, "a", "z")
        world.stop(0, 0)
        world.cut(0, 0)
        self.assertEqual((made(world), gone(world)), ([x, z], [z]))
        plain = Plain(world.tree)
        plain.make(0, "a", "x")
        plain.hand(0, 1)
        self.assertEqual(explained(world), (plain.rows(), list(plain.script)))


if __name__ == "__main__":
    unittest.main()
