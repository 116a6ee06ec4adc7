"""Points [8], [151] and [152] and the interface under neverunsaid/mending.py."""

import itertools
import unittest

from helpers import assert_invalid, drawn_run, drawn_tree, not_houses, row_tree, run_examples, star_tree
from models import HouseByWords, drawn_lines, house_state, seeded, text_of
from neverunsaid.arrows import is_picture
from neverunsaid.disks import Disk
from neverunsaid.errors import DoNotFit, InvalidHouse
from neverunsaid.houses import House
from neverunsaid.logs import Log
from neverunsaid.mending import wait_of
from neverunsaid.plans import plan
from neverunsaid.trees import Tree, side
from search import cut

EXAMPLES = """
>>> from neverunsaid.disks import Disk
>>> from neverunsaid.houses import House
>>> from neverunsaid.logs import Log
>>> from neverunsaid.mending import wait_of
>>> from neverunsaid.trees import Tree
>>> tree, disk, era = Tree(2, [(0, 1)]), Disk(), (3, 0, 5)
>>> [wait_of(tree, 0), wait_of(tree, 1)]
[10, 13]
>>> Log(disk).put([(1, 0, "bell", "rings")])
>>> a, b = House(tree, 0, disk, 5), House(tree, 1, Disk(), 6)
>>> a.take(1, ("elder", (2, 1, 4)))
[(1, ('halt', (3, 0, 5)))]
>>> b.take(0, ("halt", era))
[(0, ('held', (3, 0, 5), 1, 6, ()))]
>>> a.take(1, ("held", era, 1, 6, ()))
[(1, ('sure', (3, 0, 5)))]
>>> b.take(0, ("sure", era))
[(0, ('still', (3, 0, 5), 1, 6))]
>>> a.take(1, ("still", era, 1, 6))
[(1, ('take', (3, 0, 5), 6, 0, ((1, 0, 'bell', 'rings'),)))]
>>> b.take(0, ("take", era, 6, 0, ((1, 0, "bell", "rings"),)))
[(0, ('taken', (3, 0, 5), 1))]
>>> [a.stage, a.take(1, ("taken", era, 1)), a.stage, a.tick()]
['taken', [], 'standing', [(1, ('have', (3, 0, 5), 0, 1))]]
>>> [b.stage, b.take(0, ("have", era, 0, 1)), b.stage, b.write("bell", "")]
['taken', [], 'standing', (1, 1, 'bell', '')]
>>> b.take(0, ("have", era, 0, 1))
[(0, ('lines', (3, 0, 5), 1, 1, ((1, 1, 'bell', ''),)))]
>>> [b.take(0, ("halt", (2, 0, 9))), b.stage]
[[(0, ('elder', (3, 0, 5)))], 'standing']
"""

ROW = row_tree(3)
X, Z, Y, W = (1, 0, "bell", "rings"), (0, 0, "door", ""), (2, 0, "bell", "two"), (0, 1, "a", "x")
ERA, GREATER, LESSER = (6, 2, 9), (6, 2, 10), (6, 2, 8)


class Both:
    """A house and the one by words, to which the same is done; all that they tell and send is compared."""

    def __init__(self, case, tree, number, lines=(), life=4):
        disk = Disk()
        Log(disk).put(lines)
        self.case, self.disk = case, disk
        self.house, self.model = House(tree, number, disk, life), HouseByWords(tree, number, lines, life)
        self.check()

    def check(self):
        self.case.assertEqual(house_state(self.house), self.model.state())
        self.case.assertIs(self.house.disk, self.disk)
        self.case.assertEqual((self.disk.text, self.disk.synced), (text_of(self.model.book), len(self.disk.text)))

    def call(self, name, *args):
        """What both return, or a DoNotFit of both; a house that rises again on the disk has the book, too."""
        outcomes, book = [], self.house.book
        for one in (self.model, self.house):
            try:
                outcomes.append(getattr(one, name)(*args))
            except DoNotFit as wrong:
                outcomes.append(type(wrong))
        self.case.assertEqual(outcomes[0], outcomes[1], (name, args, self.model.state()))
        self.case.assertEqual(repr(outcomes[0]), repr(outcomes[1]))
        self.check()
        if self.house.book != book:
            again = Disk()
            again.put(self.disk.text)
            self.case.assertEqual(House(self.house.tree, self.house.number, again, 99).book, self.house.book)
        return outcomes[1]

    def take(self, sender, letter):
        return self.call("take", sender, letter)

    def take_all(self, letters):
        return [self.take(sender, letter) for sender, letter in letters][-1:]


# How a house 1 of three comes to each stage in life 4 with the log [X, Z]: the letters that it takes.
HALT, PART, HAVE = (2, ("halt", ERA)), (2, ("take", ERA, 4, 2, (W,))), (0, ("have", ERA, 0, 1))
LED = (7, 1, 4)
# The plan of the logs has Y at all three, and W, which PART brings, is not in it.
BEGIN, HELD0, HELD2 = (0, ("elder", ERA)), (0, ("held", LED, 0, 5, (Z, X, Y))), (2, ("held", LED, 2, 6, ()))
TAKE0, TAKE2 = (0, ("take", LED, 5, 3, ())), (2, ("take", LED, 6, 0, (Y,)))
STILL0, STILL2 = (0, ("still", LED, 0, 5)), (2, ("still", LED, 2, 6))
TAKEN0, TAKEN2 = (0, ("taken", LED, 0)), (2, ("taken", LED, 2))
STAGES = {
    "risen": [], "risen and told of a count": [(0, ("sure", (30, 0, 1)))],
    "held": [HALT], "taken": [HALT, PART], "standing": [HALT, PART, HAVE],
    "leading, none told": [BEGIN], "leading, one told": [BEGIN, HELD2], "leading, all told": [BEGIN, HELD2, HELD0],
    "leading, one still": [BEGIN, HELD2, HELD0, STILL0], "leading, taken": [BEGIN, HELD2, HELD0, STILL0, STILL2],
    "leading, one has taken": [BEGIN, HELD2, HELD0, STILL0, STILL2, TAKEN2],
    "leading, standing": [BEGIN, HELD2, HELD0, STILL0, STILL2, TAKEN2, TAKEN0],
    "leading, standing by a road": [BEGIN, HELD2, HELD0, STILL0, STILL2, (0, ("have", LED, 0, 1))],
    "held again behind a mending of its own": [BEGIN, HELD2, (2, ("halt", (8, 2, 9)))],
    "taken again behind a mending of its own": [BEGIN, HELD2, (2, ("halt", (8, 2, 9))), (2, ("take", (8, 2, 9), 4, 2, (W,)))],
}


def at_stage(case, name, number=1):
    both = Both(case, ROW, number, [X, Z])
    both.take_all(STAGES[name])
    return both


def eras_about(era):
    """An era, and lesser and greater ones by the count, the house and the life."""
    count, house, life = era or ERA
    return [(count, house, life), (count - 1, 2, 99), (count + 1, 0, 1), (count, house, life - 1), (count, house, life + 1)] + [
        (count, other, 99) for other in (0, 2) if other != house]


def all_letters(both):
    """Letters of all nine kinds with eras about that of the house; lines that would come to its book are new ones."""
    book = both.house.book
    fresh = tuple((home, len([line for line in book if line[0] == home]), "gate", "") for home in (2, 0))
    for era in eras_about(both.house.era):
        yield from [("halt", era), ("sure", era), ("elder", era)]
        for house in range(3):
            yield ("taken", era, house)
            yield from [("still", era, house, life) for life in (4, 5, 6)]
            yield from [("held", era, house, life, lines) for life in (4, 5) for lines in ((), (Z,))]
            yield from [("have", era, house, count) for count in (0, 1, 2, 5)]
            stream = tuple(line for line in book if line[0] in beyond(house)) + fresh[house == 0:][:1]
            yield from [("lines", era, house, start, stream[start:]) for start in range(len(stream) + 1)]
            yield ("lines", era, house, len(stream), (fresh[0],))
        yield from [("take", era, life, start, lines) for life in (3, 4) for start in (0, len(book) - 1, len(book), len(book) + 1)
                    for lines in ((), fresh)]


def beyond(house):
    return [] if house == 1 else side(ROW, house, 1)


class EachLetterAtEachStage(unittest.TestCase):
    def test_the_stages_are_what_they_are_called(self):
        for name in STAGES:
            both = at_stage(self, name)
            wanted = [stage for stage in ("risen", "held", "taken", "standing") if stage in name] or ["held"]
            self.assertEqual(both.house.stage, wanted[0], name)
            self.assertEqual(both.house.era == LED, "leading" in name)

    def test_each_letter_once_and_twice_and_what_ticks_send_then(self):
        for name in STAGES:
            for at, letter in enumerate(all_letters(at_stage(self, name))):
                own = letter[1] == (at_stage(self, name).house.era or ERA)
                for sender in range(3) if own else [at % 3]:
                    both = at_stage(self, name)
                    both.call("tick")
                    both.take(sender, letter)
                    both.call("tick")
                    both.take(sender, letter)
                    both.call("tick")

    def test_what_was_done_for_a_mending_shows_behind_each_letter(self):
        tail = [HELD0, HELD2, STILL0, STILL2, TAKEN0, TAKEN2, HALT, (2, ("sure", ERA)), HAVE]
        for name in STAGES:
            for at, letter in enumerate(all_letters(at_stage(self, name))):
                if at % 3:
                    continue
                both = at_stage(self, name)
                both.take((0, 2)[at % 2], letter)
                for sender, later in tail:
                    both.take(sender, later)
                    both.call("tick")

    def test_letters_in_all_orders(self):
        for letters in itertools.permutations([HELD0, HELD2, STILL0, STILL2, TAKEN0, TAKEN2]):
            both = Both(self, ROW, 1, [X, Z])
            both.take_all([BEGIN, *letters, *letters])
            self.assertIn(both.house.stage, ("taken", "standing"))
        for letters in itertools.permutations([HALT, PART, HAVE, (2, ("sure", ERA)), (2, ("halt", LESSER))]):
            Both(self, ROW, 1, [X, Z]).take_all([*letters, *letters])


class Drawn(unittest.TestCase):
    def test_drawn_letters_and_ticks(self):
        seen = {}
        for run in range(400):
            draw = seeded(152, run)
            tree = drawn_tree(draw, draw.choice([1, 2, 2, 3, 3, 4, 5]))
            rows = drawn_run(draw, tree, 8, 40).rows()
            logs = cut(draw, rows, 0.6, 0.2) if draw.random() < 0.85 else [drawn_lines(draw, tree, 4) for _ in rows]
            both = Both(self, tree, draw.randrange(tree.houses), logs[draw.randrange(tree.houses)])
            for _ in range(60):
                told = self.drawn_call(draw, both, logs)
                stage = both.house.stage, both.house.era is not None and both.house.era[1:] == (both.house.number, 4)
                seen[stage] = seen.get(stage, 0) + 1
                seen["torn"] = seen.get("torn", 0) + (told == DoNotFit)
        for stage in itertools.product(("held", "taken", "standing"), (True, False)):
            self.assertGreater(seen[stage], 200, stage)
        self.assertGreater(seen["torn"], 5)

    def drawn_call(self, draw, both, logs):
        house, tree = both.house, both.house.tree
        if draw.random() < 0.25:
            return both.call("tick")
        if house.stage == "standing" and draw.random() < 0.2:
            return both.call("write", "a", draw.choice(["", "x"]))
        own = house.era or (1, 0, 1)
        era = own if draw.random() < 0.85 else draw.choice([(own[0] + draw.choice([-1, 1]) or 1, draw.randrange(tree.houses), 7), (1, 0, 1)])
        other, sender = draw.randrange(tree.houses), draw.randrange(tree.houses)
        life = other + 10 if draw.random() < 0.9 else 3
        fresh = draw.randrange(tree.houses)
        line = (fresh, len([line for line in house.book if line[0] == fresh]), "b", "")
        stream = tuple(line for line in house.book if line[0] in (side(tree, other, house.number) if other in near(tree, house.number) else []))
        start = draw.randrange(len(stream) + 2)
        letters = [("halt", era), ("sure", era), ("elder", era), ("taken", era, other), ("still", era, other, life), ("still", era, other, life)]
        letters += [("held", era, other, life, tuple(logs[other]))] * 3 + [("have", era, other, draw.randrange(5))]
        letters += [("take", era, draw.choice([4, 4, 5]), len(house.book) + draw.choice([0, 0, 1]), draw.choice([(), (line,)]))]
        if fresh in (side(tree, other, house.number) if other in near(tree, house.number) else []):
            letters.append(("lines", era, other, start, (stream + (line,))[start:]))
        return both.take(other if draw.random() < 0.8 else sender, draw.choice(letters))


def near(tree, house):
    return [other for other in range(tree.houses) if (min(other, house), max(other, house)) in tree.roads]


class Point151(unittest.TestCase):
    def test_examples_of_the_interface(self):
        run_examples(self, EXAMPLES)

    def test_eight_and_the_houses_and_three_times_the_house(self):
        for houses in range(1, 17):
            for tree in (row_tree(houses), star_tree(houses), drawn_tree(seeded(houses), houses)):
                self.assertEqual([wait_of(tree, house) for house in range(houses)],
                                 [8 + houses + 3 * house for house in range(houses)])
        self.assertEqual((wait_of(Tree(1, []), 0), wait_of(row_tree(16), 15)), (9, 69))

    def test_wrong_houses(self):
        for tree in (Tree(1, []), row_tree(3), star_tree(16)):
            for value in not_houses(tree):
                assert_invalid(self, InvalidHouse, value, wait_of, tree, value)

    def test_a_house_begins_when_it_has_waited_long_enough(self):
        for tree, number in ((row_tree(3), 0), (row_tree(3), 1), (star_tree(16), 15)):
            for letters, known in (([], 0), ([(2, ("halt", ERA))], 6), ([(2, ("halt", ERA)), (2, ("take", ERA, 4, 0, ()))], 6)):
                house = House(tree, number, Disk(), 4)
                for sender, letter in letters:
                    house.take(sender, letter)
                for tick in range(wait_of(tree, number)):
                    self.assertEqual((house.tick(), house.waited), ([], tick + 1))
                era = (known + 1, number, 4)
                others = [other for other in range(tree.houses) if other != number]
                self.assertEqual(house.tick(), [(other, ("halt", era)) for other in others])
                self.assertEqual((house.known, house.era, house.stage, house.waited), (known + 1, era, "held", 0))

    def test_a_tree_of_one_house_stands_at_once(self):
        disk = Disk()
        Log(disk).put([Z, W])
        house = House(Tree(1, []), 0, disk, 3)
        self.assertEqual([house.tick() for _ in range(9)], [[]] * 9)
        self.assertEqual((house.stage, house.waited), ("risen", 9))
        self.assertEqual((house.tick(), house.stage, house.era, house.known, house.waited), ([], "standing", (1, 0, 3), 1, 0))
        self.assertEqual((house.book, house.write("a", ""), house.tick(), house.waited), ((Z, W), (0, 2, "a", ""), [], 0))
        self.assertEqual(house.take(0, ("halt", (2, 0, 1))), [(0, ("held", (2, 0, 1), 0, 3, (Z, W, (0, 2, "a", ""))))])
        self.assertEqual((house.stage, house.tick()), ("held", []))

    def test_a_mending_that_is_begun_again_forgets_what_was_told(self):
        both = Both(self, ROW, 1, [X, Z])
        both.take_all([BEGIN, HELD2, HELD0, STILL0, STILL2, TAKEN2])
        for _ in range(wait_of(ROW, 1)):
            self.assertEqual(both.call("tick"), [TAKE0])
        self.assertEqual(both.call("tick"), [(0, ("halt", (8, 1, 4))), (2, ("halt", (8, 1, 4)))])
        self.assertEqual(both.house.book, (X, Z, Y))
        for letters in ([TAKEN0], [STILL0, STILL2], [HELD0, HELD2]):
            self.assertEqual(both.take_all(letters), [[]])
        self.assertEqual(both.call("tick"), [(0, ("halt", (8, 1, 4))), (2, ("halt", (8, 1, 4)))])

    def test_what_ticks_of_a_leader_send_again(self):
        both = Both(self, ROW, 1, [X, Z])
        both.take_all([BEGIN])
        steps = [(None, [(0, ("halt", LED)), (2, ("halt", LED))]), (HELD2, [(0, ("halt", LED))]),
                 (HELD0, [(0, ("sure", LED)), (2, ("sure", LED))]), (STILL0, [(2, ("sure", LED))]),
                 (STILL2, [TAKE0, TAKE2]), (TAKEN0, [TAKE2])]
        # Each letter that counts sets the wait back, so no new mending comes between.
        for step, sent in steps:
            both.take_all([step] if step else [])
            self.assertEqual([both.call("tick") for _ in range(10)], [sent] * 10)
            self.assertEqual(both.house.waited, 10)
        both.take_all([TAKEN2])
        self.assertEqual((both.house.stage, both.house.waited), ("standing", 0))


class Point152(unittest.TestCase):
    def test_a_whole_mending_by_hand(self):
        both = Both(self, ROW, 1, [X, Z])
        self.assertEqual(both.take(*BEGIN), [(0, ("halt", LED)), (2, ("halt", LED))])
        self.assertEqual((both.take(*HELD2), both.take(*HELD0)), ([], [(0, ("sure", LED)), (2, ("sure", LED))]))
        self.assertEqual(both.take(*STILL0), [])
        self.assertEqual(both.take(*STILL2), [TAKE0, TAKE2])
        self.assertEqual((both.house.stage, both.house.book), ("taken", (X, Z, Y)))
        self.assertEqual((both.take(*TAKEN0), both.house.stage, both.take(*TAKEN2), both.house.stage), ([], "taken", [], "standing"))

    def test_a_halt_amid_a_mending_of_its_own(self):
        for letters in ([], [HELD2], [HELD2, HELD0], [HELD2, HELD0, STILL0], [HELD2, HELD0, STILL0, STILL2]):
            for era in ((7, 1, 5), (7, 2, 1), (8, 0, 1)):
                both = Both(self, ROW, 1, [X, Z])
                both.take_all([BEGIN, *letters])
                both.call("tick")
                lines = (X, Z, Y) if STILL2 in letters else (X, Z)
                self.assertEqual(both.take(2, ("halt", era)), [(2, ("held", era, 1, 4, lines))])
                self.assertEqual((both.house.stage, both.house.era, both.house.waited, both.call("tick")), ("held", era, 0, []))
                both.take_all([HELD0, HELD2, STILL0, STILL2])
                self.assertEqual(both.take(2, ("sure", era)), [(2, ("still", era, 1, 4))])

    def test_a_take_with_another_start_or_another_life(self):
        for life, start in ((4, 1), (4, 3), (4, 0), (3, 2), (5, 2)):
            both = at_stage(self, "held")
            self.assertEqual(both.take(2, ("take", ERA, life, start, (W,))), [])
            self.assertEqual((both.house.stage, both.house.book), ("held", (X, Z)))
            self.assertEqual(both.take(*PART), [(2, ("taken", ERA, 1))])
            # Behind this the start counts no more, but the life does.
            again = [(2, ("taken", ERA, 1))] if life == 4 else []
            self.assertEqual((both.take(2, ("take", ERA, life, start, (Y,))), both.house.book), (again, (X, Z, W)))

    def test_an_elder_letter_at_each_stage(self):
        for name in STAGES:
            both = at_stage(self, name)
            era, known = both.house.era, both.house.known
            count = (era or ERA)[0] + 1
            sent = both.take(2, ("elder", (count, 0, 1)))
            if "standing" in name:
                self.assertEqual((sent, both.house.era, both.house.known), ([], era, count))
            else:
                begun = (max(known, count) + 1, 1, 4)
                self.assertEqual(sent, [(0, ("halt", begun)), (2, ("halt", begun))])
                self.assertEqual((both.house.stage, both.house.era, both.house.known), ("held", begun, begun[0]))

    def test_a_mending_of_logs_that_do_not_fit_changes_nothing(self):
        both = Both(self, ROW, 1, [X, Z])
        torn = (2, ("held", LED, 2, 6, (Z, Y, X)))
        both.take_all([BEGIN, torn, (0, ("held", LED, 0, 5, (Y, X, Z))), STILL0])
        logs = [[Y, X, Z], [X, Z], [Z, Y, X]]
        both.call("tick")
        for _ in range(3):
            before = house_state(both.house)
            with self.assertRaises(DoNotFit) as caught:
                both.house.take(*STILL2)
            self.assertIs(is_picture(ROW, logs, caught.exception.picture), True)
            self.assertEqual(house_state(both.house), before)
            self.assertEqual(both.take(*STILL2), DoNotFit)
            self.assertEqual(both.call("tick"), [(2, ("sure", LED))])
        self.assertEqual(both.take(2, ("halt", GREATER[:1] + (2, 99))), [(2, ("elder", LED))])

    def test_the_plan_is_made_of_the_logs_that_were_told(self):
        for run in range(60):
            draw = seeded(111, run)
            tree = drawn_tree(draw, draw.choice([2, 3, 4, 5]))
            logs = cut(draw, drawn_run(draw, tree, 8, 60).rows())
            number = draw.randrange(tree.houses)
            both = Both(self, tree, number, logs[number])
            era = (2, number, 4)
            others = [house for house in range(tree.houses) if house != number]
            both.take(number, ("elder", (1, 0, 1)))
            both.take_all([(h, ("held", era, h, h + 5, tuple(logs[h]))) for h in others])
            told = both.take_all([(h, ("still", era, h, h + 5)) for h in others])
            rows = plan(tree, logs)
            self.assertEqual(told, [[(h, ("take", era, h + 5, len(logs[h]), tuple(rows[h][len(logs[h]):]))) for h in others]])
            self.assertEqual(list(both.house.book), rows[number])


if __name__ == "__main__":
    unittest.main()
