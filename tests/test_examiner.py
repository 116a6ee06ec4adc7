"""Point [172] and the interface under neverunsaid/examiner.py."""

import unittest

from helpers import drawn_tree, row_tree, run_examples, star_tree
from models import MOODS, do, drawn_act, lines_in, seeded, text_of
from neverunsaid.arrows import is_picture, logs_fit
from neverunsaid.calm import settle
from neverunsaid.disks import Disk
from neverunsaid.errors import InvalidRows
from neverunsaid.examiner import findings, rows_left
from neverunsaid.held import held
from neverunsaid.logs import Log
from neverunsaid.trees import Tree
from neverunsaid.worlds import World

EXAMPLES = """
>>> from neverunsaid.calm import settle
>>> from neverunsaid.examiner import findings, rows_left
>>> from neverunsaid.trees import Tree
>>> from neverunsaid.worlds import World
>>> world = World(Tree(2, [(0, 1)]))
>>> [settle(world), world.write(1, "bell", ""), rows_left(world), findings(world)]
[14, (1, 0, 'bell', ''), [[], [(1, 0, 'bell', '')]], []]
>>> [world.disk(1).put("00100 0 door x."), rows_left(world)[1], findings(world)]
[None, [(1, 0, 'bell', ''), (0, 0, 'door', 'x')], [('behind', 1), ('beside', 0, (0, 0)), ('beside', 1, (0, 0))]]
"""

X, Z, Y = (0, 0, "bell", "rings"), (2, 0, "door", ""), (1, 0, "bell", "two")


def disks(world):
    return [(world.disk(h).text, world.disk(h).synced) for h in range(world.tree.houses)]


def world_with(tree, rows):
    """A world that is settled, on whose disks the lines of rows were put by hand behind that."""
    world = World(tree)
    settle(world)
    for h, row in enumerate(rows):
        world.disk(h).put(text_of(row))
    return world


def left_by_logs(world):
    rows = []
    for h in range(world.tree.houses):
        disk = Disk()
        disk.put(world.disk(h).text)
        rows.append(list(Log(disk).lines))
    return rows


def findings_by_words(world):
    """The findings where the rows left fit, by the words of the point."""
    rows = left_by_logs(world)
    stand = [world.house(h) for h in range(world.tree.houses) if world.house(h) and world.house(h).stage == "standing"]
    found = [("behind", house.number) for house in stand if list(house.book) != rows[house.number]]
    sure = held(world.tree, rows)
    return found + [("beside", house.number, key) for house in stand for key in sorted(sure[house.number])
                    if key not in [line[:2] for line in house.book]]


class Point172(unittest.TestCase):
    def test_examples_of_the_interface(self):
        run_examples(self, EXAMPLES)

    def test_rows_left_are_read_from_copies(self):
        world = world_with(row_tree(3), [[X], [], []])
        ends = ["0", "0004", "0014", "00130 0 bell rings", "0002ab.", "00140 0 bell rings!", "00140 0 Bell rings.", text_of([Y]) + "00"]
        for end in ends:
            world.disk(1).lose(0)
            world.disk(1).put(end)
            before = disks(world)
            self.assertEqual(rows_left(world), [[X], [Y] if end.endswith(".00") else [], []])
            self.assertEqual(rows_left(world), left_by_logs(world))
            findings(world)
            self.assertEqual(disks(world), before)
            self.assertEqual((world.disk(1).text, world.disk(1).synced), (end, 0))

    def test_rows_left_at_each_length_of_a_disk(self):
        world = World(Tree(1, []))
        settle(world)
        for text in ("rings", "", "x" * 40):
            world.write(0, "bell", text)
        world.stop(0, 0)
        for many in range(len(world.disk(0).text), -1, -1):
            world.cut(0, many)
            before = disks(world)
            self.assertEqual(rows_left(world), left_by_logs(world))
            self.assertEqual(disks(world), before)

    def test_lists_are_new(self):
        world = world_with(row_tree(3), [[X], [], []])
        rows = rows_left(world)
        rows[0].clear()
        rows.append("more")
        findings(world).clear()
        self.assertEqual(rows_left(world), [[X], [], []])
        self.assertEqual(findings(world), [("behind", 0), ("beside", 0, (0, 0))])
        rows = rows_left(world)
        self.assertEqual(len({id(row) for row in rows}), 3)

    def test_worlds_that_only_acts_changed(self):
        for number in range(50):
            draw = seeded(172, number)
            world = World(drawn_tree(draw, draw.choice([1, 2, 3, 4, 5])))
            if draw.random() < 0.8:
                settle(world)
            for count in range(150):
                do(world, drawn_act(draw, world, MOODS[number % len(MOODS)]))
                before = disks(world)
                if count % 5 == 0:
                    self.assertEqual(findings(world), [])
                    self.assertEqual(rows_left(world), [lines_in(text) for text, _ in before])
                    self.assertEqual(disks(world), before)

    def test_torn_alone(self):
        torn = [[[X, Y], [Y, X], []], [[(0, 1, "a", "")], [], []], [[X], [], [X[:3] + ("!",)]], [[Z, X], [], [X, Z]]]
        for rows in torn:
            tree = row_tree(3)
            if logs_fit(tree, rows):
                self.assertNotEqual([found[0] for found in findings(world_with(tree, rows))], ["torn"])
                continue
            told = findings(world_with(tree, rows))
            self.assertEqual([found[0] for found in told], ["torn"])
            self.assertIs(is_picture(tree, rows, told[0][1]), True)
            self.assertEqual(told, findings(world_with(tree, rows)))

    def test_behind_for_each_house_that_stands_and_has_another_book(self):
        tree = row_tree(3)
        self.assertEqual(findings(world_with(tree, [[X], [X, Y], []])), [("behind", 0), ("behind", 1), ("beside", 0, (0, 0)),
                                                                        ("beside", 1, (0, 0)), ("beside", 1, (1, 0))])
        world = World(tree)
        settle(world)
        world.write(1, "bell", "two")
        world.disk(1).lose(3)
        self.assertEqual(findings(world), [("behind", 1)])
        world.stop(1, 0)
        self.assertEqual(findings(world), [])

    def test_beside_for_houses_whose_own_disk_is_as_their_book(self):
        world = world_with(row_tree(3), [[], [], [X, (0, 1, "a", ""), Z]])
        wanted = [("behind", 2)] + [("beside", h, key) for h in (0, 1) for key in ((0, 0), (0, 1))]
        self.assertEqual(findings(world), wanted + [("beside", 2, key) for key in ((0, 0), (0, 1), (2, 0))])
        world.disk(2).sync()
        world.stop(2, 0)
        self.assertEqual(findings(world), wanted[1:5])
        world.stop(0, 0)
        self.assertEqual(findings(world), wanted[3:5])
        world.rise(0)
        self.assertEqual(findings(world), wanted[3:5])

    def test_houses_that_do_not_stand_are_not_looked_at(self):
        world = World(row_tree(3))
        for h in range(3):
            world.disk(h).put(text_of([(0, 0, "a", "")]))
        self.assertEqual(findings(world), [])
        for _ in range(12):
            world.tick(0)
        while world.letters:
            world.carry(0)
        self.assertEqual([world.house(h).stage for h in range(3)], ["standing", "taken", "taken"])
        self.assertEqual([found[1] for found in findings(world)], [0, 0])

    def test_disks_that_were_changed_by_hand_in_drawn_worlds(self):
        forms = {}
        for number in range(400):
            draw = seeded(1720, number)
            tree = drawn_tree(draw, draw.choice([1, 2, 3, 3, 4]))
            world = World(tree)
            settle(world)
            for _ in range(draw.randrange(60)):
                do(world, drawn_act(draw, world, MOODS[number % len(MOODS)]))
            for h in range(tree.houses):
                if draw.random() < 0.4:
                    world.disk(h).lose(draw.randrange(len(world.disk(h).text) + 1))
                rows = rows_left(world)
                home = draw.randrange(tree.houses)
                number = len([line for line in rows[h] if line[0] == home])
                known = [line for row in rows for line in row if line[:2] == (home, number)] or [(home, number, "b", "")]
                if draw.random() < 0.6 and len(text_of(rows[h])) == len(world.disk(h).text):
                    world.disk(h).put(text_of(known[:1]))
            told = findings(world)
            if not logs_fit(tree, left_by_logs(world)):
                self.assertEqual([found[0] for found in told], ["torn"])
                self.assertIs(is_picture(tree, left_by_logs(world), told[0][1]), True)
            else:
                self.assertEqual(told, findings_by_words(world))
            for form in {found[0] for found in told}:
                forms[form] = forms.get(form, 0) + 1
        self.assertGreater(min(forms[form] for form in ("torn", "behind", "beside")), 30)

    def test_rows_left_that_are_no_rows(self):
        for tree, lines in ((row_tree(3), [X, X]), (row_tree(3), [X, X[:3] + ("!",)]), (row_tree(3), [(3, 0, "a", "")]), (Tree(1, []), [Y])):
            world = world_with(tree, [lines])
            with self.assertRaises(InvalidRows) as caught:
                findings(world)
            self.assertEqual(caught.exception.given, [lines] + [[] for _ in range(tree.houses - 1)])
            self.assertEqual(rows_left(world), caught.exception.given)

    def test_sixteen_houses_with_one_hundred_and_twenty_lines(self):
        for tree in (row_tree(16), star_tree(16)):
            world = World(tree)
            settle(world)
            for number in range(120):
                world.write(number % 16, "bell", "x" * 40)
            self.assertEqual(findings(world), [])
            settle(world)
            self.assertEqual(findings(world), [])
            self.assertEqual([len(row) for row in rows_left(world)], [120] * 16)


if __name__ == "__main__":
    unittest.main()
