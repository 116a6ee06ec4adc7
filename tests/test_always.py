"""What always holds in a world: point [164], the sixth statement of point [9], and the limits of point [12]."""

import copy
import unittest

from helpers import all_trees, drawn_tree, row_tree, star_tree
from models import MOODS, do, drawn_act, lines_in, seeded
from neverunsaid.arrows import logs_fit
from neverunsaid.calm import is_settled, settle
from neverunsaid.examiner import findings, rows_left
from neverunsaid.held import held
from neverunsaid.logs import Log
from neverunsaid.plans import plan
from neverunsaid.standings import goes_on, is_rows, is_standing
from neverunsaid.worlds import World, run
from search import begin_with, standings_from


class Watch:
    """Looks at a world behind each act, by the words of points [164] and [9]."""

    def __init__(self, case, world):
        self.case, self.world, self.tree = case, world, world.tree
        houses = range(world.tree.houses)
        self.books = {h: world.house(h).book for h in houses if world.house(h)}
        self.lost = {h: False for h in houses}
        self.lines, self.looked_at = self.lines_on_disks(), None
        self.seen = {"many stood": 0, "some stood": 0, "plans brought lines": 0}

    def lines_on_disks(self):
        return [lines_in(self.world.disk(h).text) for h in range(self.tree.houses)]

    def stand(self):
        houses = [self.world.house(h) for h in range(self.tree.houses)]
        return {house.number: list(house.book) for house in houses if house and house.stage == "standing"}

    def act(self, act):
        kind, at = act[:2]
        letter = self.world.letters[at] if kind == "carry" else None
        before = letter and self.world.house(letter[1]) and copy.copy(self.world.house(letter[1]))
        lines, texts = self.lines, [self.world.disk(h).text for h in range(self.tree.houses)]
        stand = self.stand()
        do(self.world, act)
        self.lines = self.lines_on_disks()
        self.look_at_disks(act, lines, texts)
        self.look_at_books(act)
        if before and before.stage == "held" and self.world.house(letter[1]).book != before.book:
            # Only a plan brings lines to a house at this stage.
            self.seen["plans brought lines"] += 1
            self.case.assertTrue(self.lost[letter[1]], act)
        for h in self.stand():
            self.lost[h] = False
        self.look_at_standing(stand)

    def calm_round(self):
        """A calm round, act by act."""
        houses = range(self.tree.houses)
        for act in [("rise", h) for h in houses if self.world.house(h) is None] + [("tick", h) for h in houses]:
            self.act(act)
        for _ in range(2):
            for _ in range(len(self.world.letters)):
                self.act(("carry", 0))

    def look_at_disks(self, act, lines, texts):
        case = self.case
        for h in range(self.tree.houses):
            disk, house = self.world.disk(h), self.world.house(h)
            case.assertEqual(disk.synced, len(disk.text))
            if house is not None:
                case.assertEqual(list(house.book), self.lines[h])
            if act[:2] != ("cut", h):
                case.assertEqual(self.lines[h][:len(lines[h])], lines[h], "a line was taken back")
        if act[0] == "stop":
            case.assertEqual(self.world.disk(act[1]).text, texts[act[1]])
        # A line is gone only when the last disk that held it loses it.
        gone = {line for row in lines for line in row} - {line for row in self.lines for line in row}
        for line in gone:
            case.assertEqual((act[0], [h for h, row in enumerate(lines) if line in row]), ("cut", [act[1]]))

    def look_at_books(self, act):
        if act[0] == "cut":
            if len(self.lines[act[1]]) < len(self.books[act[1]]):
                self.lost[act[1]] = True
            self.books[act[1]] = tuple(self.lines[act[1]])
        for h in range(self.tree.houses):
            book = tuple(self.lines[h])
            self.case.assertEqual(book[:len(self.books[h])], self.books[h])
            self.books[h] = book

    def look_at_standing(self, before):
        """The logs fit; the books of the houses that stand are rows of the least standing, and they only go on."""
        stand = self.stand()
        if (self.lines, stand) == self.looked_at:
            return
        self.looked_at = (self.lines, stand)
        self.case.assertIs(logs_fit(self.tree, self.lines), True)
        rows = plan(self.tree, self.lines)
        self.case.assertTrue(is_standing(self.tree, rows) and begin_with(rows, self.lines))
        for h, book in stand.items():
            self.case.assertEqual(rows[h], book)
        if len(stand) == self.tree.houses == len(before):
            self.seen["many stood"] += 1
            self.case.assertTrue(goes_on(self.tree, list(before.values()), list(stand.values())))
        self.seen["some stood"] += 0 < len(stand) < self.tree.houses


def drawn_world(draw, houses, mood, acts, most_lines, watch=None, settled=0.8):
    tree = drawn_tree(draw, houses)
    world = World(tree)
    if draw.random() < settled:
        settle(world)
    watched = watch and watch(world)
    for _ in range(acts):
        act = drawn_act(draw, world, mood, most_lines)
        (watched.act if watched else lambda act: do(world, act))(act)
    return world, watched


class Point164(unittest.TestCase):
    def test_drawn_acts_in_worlds_of_one_to_five_houses(self):
        seen = {}
        for number in range(70):
            draw = seeded(164, number)
            mood = MOODS[number % len(MOODS)]
            _, watch = drawn_world(draw, draw.choice([1, 2, 3, 3, 4, 5]), mood, 250, 14, lambda world: Watch(self, world))
            for name, many in watch.seen.items():
                seen[name] = seen.get(name, 0) + many
        self.assertGreater(seen["many stood"], 100)
        self.assertGreater(seen["some stood"], 100)

    def test_the_books_of_the_houses_that_stand_by_a_search_through_all_standings(self):
        looked = 0
        for number in range(120):
            draw = seeded(1640, number)
            tree = draw.choice([tree for houses in (1, 2, 3, 4) for tree in all_trees(houses)])
            world = World(tree)
            settle(world)
            for _ in range(draw.randrange(200)):
                do(world, drawn_act(draw, world, MOODS[number % len(MOODS)], 4))
            rows = rows_left(world)
            found = standings_from(tree, rows)
            stand = [h for h in range(tree.houses) if world.house(h) and world.house(h).stage == "standing"]
            self.assertTrue([one for one in found if all(one[h] == world.house(h).book for h in stand)])
            looked += len(stand)
        self.assertGreater(looked, 80)

    def test_mendings_cut_and_begun_again_by_other_houses(self):
        brought = 0
        for number in range(40):
            draw = seeded(1641, number)
            tree = drawn_tree(draw, draw.choice([2, 3, 4, 5]))
            world = World(tree)
            settle(world)
            watch = Watch(self, world)
            for _ in range(4):
                for _ in range(draw.randrange(40)):
                    watch.act(drawn_act(draw, world, {"write": 5, "tick": 4, "carry": 9}, 24))
                self.fall(draw, watch)
                # Houses begin their mendings in any order, and each is cut amid it.
                for _ in range(draw.randrange(16)):
                    watch.calm_round()
                for _ in range(draw.randrange(40)):
                    watch.act(drawn_act(draw, world, {"tick": 5, "carry": 10, "drop": 0.3, "double": 0.5, "rise": 1}, 16))
                    if draw.random() < 0.03:
                        self.fall(draw, watch)
            while not is_settled(world):
                watch.calm_round()
            brought += watch.seen["plans brought lines"]
        self.assertGreater(brought, 60)

    def fall(self, draw, watch):
        """Some houses stop, their disks are cut to any length, and some of them rise."""
        for h in range(watch.tree.houses):
            if watch.world.house(h) and draw.random() < 0.35:
                watch.act(("stop", h, draw.randrange(9)))
                if draw.random() < 0.7:
                    watch.act(("cut", h, draw.randrange(len(watch.world.disk(h).text) + 1)))
                if draw.random() < 0.9:
                    watch.act(("rise", h))

    def test_houses_take_parts_of_a_plan_and_logs_are_cut_again(self):
        """The fifth statement: what is left then fits, and a plan made of it begins with all that is left."""
        for number in range(150):
            draw = seeded(95, number)
            world, _ = drawn_world(draw, draw.choice([2, 3, 4, 5]), MOODS[number % 4], 200, 10)
            tree, logs = world.tree, rows_left(world)
            rows = plan(tree, logs)
            taken = [row if draw.random() < 0.5 else log for row, log in zip(rows, logs)]
            self.assertEqual(held(tree, taken), held(tree, logs))
            left = [row[:draw.randrange(len(row) + 1)] if draw.random() < 0.5 else row for row in taken]
            self.assertTrue(logs_fit(tree, left))
            self.assertTrue(begin_with(plan(tree, left), left))


class Limits(unittest.TestCase):
    def test_worlds_of_sixteen_houses_and_one_hundred_and_twenty_lines(self):
        for tree in (row_tree(16), star_tree(16), drawn_tree(seeded(16), 16)):
            draw = seeded(12, tree.line())
            world = World(tree)
            settle(world)
            for number in range(120):
                world.write(number % 16, "abcdefgh"[:number % 8 + 1], "x" * 40)
                for _ in range(3):
                    do(world, drawn_act(draw, world, {"tick": 1, "carry": 2}))
            for number in range(300):
                do(world, drawn_act(draw, world, MOODS[number % 4], 120))
            self.assertTrue(is_rows(tree, rows_left(world)))
            self.assertEqual(findings(world), [])
            settle(world)
            self.assertEqual(findings(world), [])

    def test_six_hundred_and_twenty_thousand_acts(self):
        tree = row_tree(3)
        world = World(tree)
        settle(world)
        world.write(1, "bell", "x" * 40)
        while len(world.acts) < 20000:
            for _ in range(200):
                world.tick(1)
            world.double(0)
            for _ in range(401):
                world.carry(0)
        self.assertEqual((len(world.acts) >= 20000, findings(world)), (True, []))
        self.assertEqual(len(run(tree, world.acts[:600]).acts), 600)

    def test_a_disk_that_a_house_wrote_on_outlives_it(self):
        world, _ = drawn_world(seeded(1), 4, MOODS[1], 300, 40)
        for h in range(4):
            copied = copy.deepcopy(world.disk(h))
            self.assertEqual(list(Log(copied).lines), rows_left(world)[h])


if __name__ == "__main__":
    unittest.main()
