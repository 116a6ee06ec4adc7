"""Points [8] and [141] to [143] and the interface under neverunsaid/houses.py."""

import random
import unittest

from helpers import (
    assert_invalid, assert_told, directed_roads, drawn_run, naive_side, not_houses, row_tree, run_examples, snapshot,
    star_tree, values_of_all_kinds,
)
from neverunsaid.disks import Disk
from neverunsaid.errors import InvalidCell, InvalidHouse, InvalidLetter, InvalidLife, InvalidText, NotStanding
from neverunsaid.houses import House
from neverunsaid.letters import is_letter
from neverunsaid.logs import Log
from neverunsaid.plain import Plain
from neverunsaid.texts import is_cell, is_text
from neverunsaid.trees import Tree, neighbours

EXAMPLES = """
>>> from neverunsaid.disks import Disk
>>> from neverunsaid.houses import House
>>> from neverunsaid.trees import Tree
>>> house = House(Tree(1, []), 0, Disk(), 4)
>>> [house.stage, house.era, house.known, house.waited, house.tick(), house.waited]
['risen', None, 0, 0, [], 1]
>>> house.write("bell", "rings")
raises NotStanding('risen')
>>> [house.take(0, ("elder", (7, 0, 2))), house.stage, house.era, house.known, house.waited]
[[], 'standing', (8, 0, 4), 8, 0]
>>> [house.write("bell", "rings"), house.write("bell", ""), house.shows(), house.tick()]
[(0, 0, 'bell', 'rings'), (0, 1, 'bell', ''), ((0, 1, 'bell', ''),), []]
>>> house.disk.text
'00140 0 bell rings.00090 1 bell .'
>>> house.take(1, ("elder", (7, 0, 2)))
raises InvalidHouse(1)
"""

ERA = (6, 2, 9)
X, Z, Y = (1, 0, "bell", "rings"), (0, 0, "door", ""), (2, 0, "bell", "two")


def disk_with(lines):
    disk = Disk()
    Log(disk).put(lines)
    return disk


def standing(tree, number, lines, life=4, era=ERA):
    """A house that answered a mending of another one, and stands by what a neighbour counts."""
    house = House(tree, number, disk_with(lines), life)
    leader = era[1]
    house.take(leader, ("halt", era))
    house.take(leader, ("take", era, life, len(lines), ()))
    u = neighbours(tree, number)[0]
    house.take(u, ("lines", era, u, 0, ()))
    assert house.stage == "standing"
    return house


def all_of(house):
    return (house.tree, house.number, house.life, house.book, house.stage, house.era, house.known, house.waited,
            house.disk.text, house.disk.synced)


class Point141(unittest.TestCase):
    def test_examples_of_the_interface(self):
        run_examples(self, EXAMPLES)

    def test_a_house_that_rises(self):
        tree, disk = row_tree(3), disk_with([X, Z])
        house = House(tree, 1, disk, 7)
        self.assertIs(house.disk, disk)
        self.assertEqual(all_of(house), (tree, 1, 7, (X, Z), "risen", None, 0, 0, disk.text, len(disk.text)))
        self.assertEqual(house.shows(), (X, Z))
        self.assertEqual(House(tree, 0, Disk(), 1).book, ())
        self.assertEqual(House(Tree(1, []), 0, Disk(), 10 ** 20 - 1).life, 10 ** 20 - 1)

    def test_a_house_opens_the_log_on_its_disk(self):
        disk = disk_with([X, Z, Y])
        whole = disk.text
        for many in range(len(whole) + 1):
            disk = Disk()
            disk.put(whole[:many])
            house = House(row_tree(3), 2, disk, 1)
            log = Log(disk_of(whole[:many]))
            self.assertEqual((house.book, disk.text, disk.synced), (log.lines, log.disk.text, log.disk.synced))
            self.assertEqual(len(house.book), sum(many >= end for end in (19, 33, 50)))

    def test_wrong_numbers_and_lives_ahead_of_all_else(self):
        for tree in (Tree(1, []), row_tree(3), star_tree(16)):
            disk = disk_of("0014")
            for value in not_houses(tree):
                assert_invalid(self, InvalidHouse, value, House, tree, value, disk, 0)
            for value in values_of_all_kinds():
                if type(value) is not int or value < 1:
                    assert_invalid(self, InvalidLife, value, House, tree, 0, disk, value)
            self.assertEqual((disk.text, disk.synced), ("0014", 0))


def disk_of(signs):
    disk = Disk()
    disk.put(signs)
    return disk


class Point142(unittest.TestCase):
    def test_writing(self):
        house = standing(row_tree(3), 1, [X, Z])
        text = house.disk.text
        self.assertEqual(house.write("gate", "a b "), (1, 1, "gate", "a b "))
        self.assertEqual(house.write("bell", ""), (1, 2, "bell", ""))
        self.assertEqual(house.book, (X, Z, (1, 1, "gate", "a b "), (1, 2, "bell", "")))
        self.assertEqual(house.disk.text, text + "00131 1 gate a b .00091 2 bell .")
        self.assertEqual(house.disk.synced, len(house.disk.text))
        self.assertEqual(house.shows(), ((1, 2, "bell", ""), Z, (1, 1, "gate", "a b ")))
        self.assertEqual(House(house.tree, 1, house.disk, 5).book, house.book)

    def test_the_number_is_how_many_lines_of_the_book_have_this_home(self):
        house = standing(row_tree(3), 0, [Y, (2, 1, "bell", "")])
        self.assertEqual([house.write("a", "x")[:2] for _ in range(3)], [(0, 0), (0, 1), (0, 2)])
        again = House(house.tree, 0, house.disk, 5)
        self.assertEqual(again.book, house.book)

    def test_only_a_house_that_stands_writes(self):
        tree = row_tree(3)
        house = House(tree, 1, Disk(), 4)
        stages = [lambda: None, lambda: house.take(2, ("halt", ERA)), lambda: house.take(2, ("take", ERA, 4, 0, ()))]
        for stage, call in zip(("risen", "held", "taken"), stages):
            call()
            for cell, text in (("bell", ""), ("Bell", ""), ("bell", 3), (None, None)):
                before = all_of(house)
                assert_told(self, NotStanding(stage), house.write, cell, text)
                self.assertEqual(all_of(house), before)
        house.take(0, ("have", ERA, 0, 0))
        self.assertEqual(house.write("bell", ""), (1, 0, "bell", ""))
        house.take(2, ("halt", (7, 2, 9)))
        assert_told(self, NotStanding("held"), house.write, "bell", "")

    def test_wrong_cells_and_texts(self):
        house = standing(row_tree(3), 1, [X])
        before = all_of(house)
        for value in values_of_all_kinds():
            if not is_cell(value):
                assert_invalid(self, InvalidCell, value, house.write, value, "")
                assert_invalid(self, InvalidCell, value, house.write, value, None)
            if not is_text(value):
                assert_invalid(self, InvalidText, value, house.write, "bell", value)
        self.assertEqual(all_of(house), before)

    def test_shows_is_the_copy_at_each_stage(self):
        tree, lines = row_tree(3), [X, Z, Y]
        house = House(tree, 1, disk_with(lines), 4)
        self.assertEqual(house.shows(), (Y, Z))
        house.take(2, ("halt", ERA))
        self.assertEqual(house.shows(), (Y, Z))
        house.take(2, ("take", ERA, 4, 3, ((0, 1, "bell", ""),)))
        self.assertEqual(house.shows(), ((0, 1, "bell", ""), Z))


class Point143(unittest.TestCase):
    def test_a_tick_of_a_house_that_stands_tells_each_neighbour_what_came_over_it(self):
        draw = random.Random(143)
        for tree in (row_tree(3), star_tree(5), star_tree(5, 3), row_tree(6)):
            for _ in range(4):
                rows = drawn_run(draw, tree, 12, 60).rows()
                for number in range(tree.houses):
                    era = (6, (number + 1) % tree.houses, 9)
                    house = standing(tree, number, rows[number], era=era)
                    wanted = [(u, ("have", era, number, len([line for line in rows[number] if line[0] in naive_side(tree, u, number)])))
                              for u in neighbours(tree, number)]
                    before = all_of(house)
                    self.assertEqual((house.tick(), house.tick()), (wanted, wanted))
                    self.assertEqual(all_of(house), before)

    def test_lines_that_are_asked_for(self):
        book = [Z, X, Y, (1, 1, "a", ""), (0, 1, "a", "")]
        house = standing(row_tree(3), 1, book)
        own = [line for line in book if line[0] in (0, 1)]
        for count in range(len(own)):
            self.assertEqual(house.take(2, ("have", ERA, 2, count)), [(2, ("lines", ERA, 1, count, tuple(own[count:])))])
        for count in (4, 5, 10 ** 19):
            self.assertEqual(house.take(2, ("have", ERA, 2, count)), [])
        self.assertEqual(house.take(0, ("have", ERA, 0, 1)), [(0, ("lines", ERA, 1, 1, (Y, (1, 1, "a", ""))))])
        self.assertEqual((house.book, house.stage, house.waited), (tuple(book), "standing", 0))

    def test_lines_below_at_and_above_what_came_over(self):
        stream = [(2, number, "a", str(number)) for number in range(6)]
        for start in range(5):
            for end in range(start, 7):
                house = standing(row_tree(3), 1, [stream[0], X, stream[1]])
                disk = house.disk
                self.assertEqual(house.take(2, ("lines", ERA, 2, start, tuple(stream[start:end]))), [])
                fresh = tuple(stream[2:end]) if start <= 2 else ()
                self.assertEqual(house.book, (stream[0], X, stream[1]) + fresh)
                self.assertEqual((Log(disk_of(disk.text)).lines, disk.synced), (house.book, len(disk.text)))
                self.assertEqual(House(house.tree, 1, disk, 5).book, house.book)

    def test_a_letter_of_roads_lets_a_house_that_has_taken_stand(self):
        for letter in (("have", ERA, 0, 0), ("have", ERA, 0, 7), ("lines", ERA, 0, 0, ()), ("lines", ERA, 0, 7, (Z,)), ("lines", ERA, 0, 0, (Z,))):
            house = House(row_tree(3), 1, Disk(), 4)
            house.take(2, ("halt", ERA))
            self.assertEqual((house.take(0, letter), house.stage), ([], "held"))
            house.take(2, ("take", ERA, 4, 0, ()))
            for wrong in (("have", ERA, 2, 0), ("have", (6, 2, 8), 0, 0), ("have", (6, 2, 10), 0, 0), ("lines", ERA, 1, 0, (Z,))):
                self.assertEqual((house.take(0, wrong), house.stage, house.book), ([], "taken", ()))
            self.assertEqual((house.take(0, letter), house.stage), ([], "standing"))
            self.assertEqual(house.book, (Z,) if letter[3:] == (0, (Z,)) else ())

    def test_a_letter_from_a_house_that_is_no_neighbour(self):
        house = House(row_tree(4), 3, Disk(), 4)
        house.take(2, ("halt", ERA))
        house.take(2, ("take", ERA, 4, 0, ()))
        for sender in (0, 1, 3):
            for letter in (("have", ERA, sender, 0), ("lines", ERA, sender, 0, (Z,))):
                self.assertEqual((house.take(sender, letter), house.stage, house.book), ([], "taken", ()))
        self.assertEqual((house.take(2, ("have", ERA, 2, 0)), house.stage), ([], "standing"))

    def test_roads_bring_the_books_of_houses_to_the_books_of_a_plain_run(self):
        draw = random.Random(9)
        for tree in (row_tree(4), star_tree(5, 2)):
            plain = Plain(tree)
            houses = [standing(tree, number, [], era=(6, (number + 1) % tree.houses, 9)) for number in range(tree.houses)]
            for house in houses:
                house.take(0, ("halt", (8, 0, 1)))
                house.take(0, ("take", (8, 0, 1), 4, 0, ()))
                house.take(neighbours(tree, house.number)[0], ("have", (8, 0, 1), neighbours(tree, house.number)[0], 0))
            for _ in range(60):
                number = draw.randrange(tree.houses)
                if draw.random() < 0.4:
                    self.assertEqual(houses[number].write("a", "x"), plain.make(number, "a", "x"))
                u, v = draw.choice(directed_roads(tree))
                for to, have in houses[v].tick():
                    for back, letter in houses[to].take(v, have) if to == u else []:
                        houses[back].take(to, letter)
                while plain.under_way(u, v):
                    plain.hand(u, v)
                self.assertEqual([list(house.book) for house in houses], plain.rows())

    def test_the_count_of_each_letter_becomes_known_ahead_of_all_else(self):
        tree = row_tree(3)
        for form in ((), (1, 2, ()), (1, 2), (2, 0, ()), (1,), (1, 0), (1, 0, ())):
            for word in ("halt", "held", "sure", "still", "elder", "take", "taken", "have", "lines"):
                for count in (1, 5, 6, 7, 10 ** 20 - 1):
                    house = standing(tree, 1, [X])
                    letter = (word, (count, 0, 3)) + form
                    if is_letter(tree, letter):
                        house.take(0, letter)
                        self.assertEqual((house.known, house.stage), (max(count, 6), "held" if word == "halt" and count > 6 else "standing"))
        house = House(tree, 1, Disk(), 4)
        self.assertEqual(house.take(0, ("elder", (30, 2, 9))), [(0, ("halt", (31, 1, 4))), (2, ("halt", (31, 1, 4)))])
        self.assertEqual((house.known, house.era), (31, (31, 1, 4)))

    def test_wrong_senders_and_letters(self):
        for tree, number in ((Tree(1, []), 0), (row_tree(3), 1)):
            house = House(tree, number, Disk(), 4)
            before = all_of(house)
            for value in not_houses(tree):
                assert_invalid(self, InvalidHouse, value, house.take, value, ("halt", (9, 0, 9)))
                assert_invalid(self, InvalidHouse, value, house.take, value, None)
            near = [("halt", (9, tree.houses, 9)), ["halt", (9, 0, 9)], ("halt", [9, 0, 9]), ("halt", (0, 0, 9)), ("halt", (9, 0, True))]
            near += [("held", (9, 0, 9), 0, 2, []), ("held", (9, 0, 9), 0, 2, (X, X)), ("take", (9, 0, 9), 2, False, ()), ("have", (9, 0, 9), 0, -1)]
            for value in values_of_all_kinds() + near:
                if not is_letter(tree, value):
                    assert_invalid(self, InvalidLetter, value, house.take, number, value)
            self.assertEqual(all_of(house), before)

    def test_a_letter_stays_as_it_is_and_the_lists_that_are_sent_are_new(self):
        house = standing(row_tree(3), 1, [X])
        letter = ("lines", ERA, 2, 0, (Y,))
        before = snapshot(letter)
        sent = house.take(2, letter)
        sent.append("more")
        self.assertEqual((snapshot(letter), house.take(2, letter)), (before, []))
        told = house.tick()
        told.clear()
        self.assertEqual(len(house.tick()), 2)
        self.assertIs(type(house.book), tuple)


if __name__ == "__main__":
    unittest.main()
