"""Point [191] and the interface under neverunsaid/readers.py."""

import unittest

from helpers import assert_invalid, assert_told, drawn_tree, is_int, run_examples, snapshot, values_of_all_kinds
from models import MOODS, do, drawn_act, seeded
from neverunsaid.calm import settle
from neverunsaid.errors import InvalidIndex, InvalidLines, Turned
from neverunsaid.readers import Reader
from neverunsaid.texts import is_line
from neverunsaid.worlds import World

EXAMPLES = """
>>> from neverunsaid.readers import Reader
>>> reader, x, z = Reader(), (1, 0, "bell", "rings"), (0, 0, "door", "")
>>> [reader.follow([x]), reader.follow([x, z]), reader.follow((x, z)), reader.read]
[[(1, 0, 'bell', 'rings')], [(0, 0, 'door', '')], [], ((1, 0, 'bell', 'rings'), (0, 0, 'door', ''))]
>>> [reader.forget(1), reader.follow([x]), reader.follow([x, z])]
[None, [], [(0, 0, 'door', '')]]
>>> reader.follow([x])
raises Turned(1)
>>> reader.forget(3)
raises InvalidIndex(3)
"""

X, Z, Y = (1, 0, "bell", "rings"), (0, 0, "door", ""), (10 ** 20 - 1, 7, "gate", "two")


def reader_of(lines):
    reader = Reader()
    reader.follow(lines)
    return reader


class Point191(unittest.TestCase):
    def test_examples_of_the_interface(self):
        run_examples(self, EXAMPLES)

    def test_a_reader_has_read_nothing_at_first(self):
        reader = Reader()
        self.assertEqual(reader.read, ())
        self.assertEqual((reader.follow([]), reader.follow(()), reader.read), ([], [], ()))
        self.assertIsNone(reader.forget(0))

    def test_books_that_grow(self):
        book = [X, Z, X, Y, Z, Z]
        for first in range(len(book) + 1):
            for then in range(first, len(book) + 1):
                for kind in (list, tuple):
                    reader = Reader()
                    self.assertEqual(reader.follow(kind(book[:first])), book[:first])
                    self.assertEqual(reader.follow(kind(book[:then])), book[first:then])
                    self.assertEqual(reader.read, tuple(book[:then]))

    def test_books_that_shrink(self):
        book = [X, Z, Y]
        for many in range(3):
            reader = reader_of(book)
            assert_told(self, Turned(many), reader.follow, book[:many])
            self.assertEqual(reader.read, tuple(book))
            self.assertEqual(reader.follow(book + [X]), [X])

    def test_books_with_a_line_changed(self):
        book = [X, Z, Y, (3, 3, "a", "b")]
        for at, line in enumerate(book):
            for other in ((line[0] + 1,) + line[1:], line[:1] + (line[1] + 1,) + line[2:], line[:2] + ("other",) + line[3:], line[:3] + ("!",)):
                for book_now in (book[:at] + [other] + book[at + 1:], book[:at] + [other], book[:at] + [other] + book, book[:at] + [other] * 9):
                    reader = reader_of(book)
                    assert_told(self, Turned(at), reader.follow, book_now)
                    self.assertEqual(reader.read, tuple(book))
        reader = reader_of([X, Z, Y])
        assert_told(self, Turned(0), reader.follow, [Z, X, Y])
        assert_told(self, Turned(1), reader.follow, [X, Y, Z])

    def test_values_that_are_no_lists_of_lines(self):
        for value in values_of_all_kinds() + [[X, Z, X[:3]], [X, list(Z)], [X, None], ([X],), "".join(["x"])]:
            if type(value) not in (list, tuple) or not all(is_line(line) for line in value):
                for reader in (Reader(), reader_of([X, Z])):
                    before = reader.read
                    assert_invalid(self, InvalidLines, value, reader.follow, value)
                    self.assertEqual(reader.read, before)

    def test_the_very_list_changed_behind_the_call(self):
        reader, book = Reader(), [X]
        told = reader.follow(book)
        book.append(Z)
        self.assertEqual((told, reader.read), ([X], (X,)))
        told.append(Y)
        self.assertEqual((book, reader.read), ([X, Z], (X,)))
        self.assertEqual(reader.follow(book), [Z])
        book[0] = Y
        self.assertEqual(reader.read, (X, Z))
        assert_told(self, Turned(0), reader.follow, book)
        book[0] = X
        del book[1]
        assert_told(self, Turned(1), reader.follow, book)
        before = snapshot(book)
        book += [Z, Y]
        self.assertEqual(reader.follow(book), [Y])
        self.assertEqual(before, snapshot(book[:1]))

    def test_forgetting_at_each_index(self):
        book = [X, Z, Y, X]
        for at in range(5):
            reader = reader_of(book)
            self.assertIsNone(reader.forget(at))
            self.assertEqual(reader.read, tuple(book[:at]))
            self.assertEqual(reader.follow(book), book[at:])
        reader = reader_of(book)
        reader.forget(2)
        self.assertEqual(reader.follow([X, Z, Z]), [Z])

    def test_forgetting_at_values_that_are_no_index(self):
        for many in range(4):
            reader = reader_of([X, Z, Y][:many])
            for value in values_of_all_kinds():
                if not is_int(value) or not 0 <= value <= many:
                    assert_invalid(self, InvalidIndex, value, reader.forget, value)
            self.assertEqual(reader.read, (X, Z, Y)[:many])

    def test_read_is_a_tuple_and_readers_know_nothing_of_each_other(self):
        one, other = reader_of([X]), Reader()
        self.assertIs(type(one.read), tuple)
        self.assertIs(type(one.follow((X, Z))), list)
        self.assertEqual((one.read, other.read), ((X, Z), ()))

    def test_readers_that_follow_houses_over_falls_and_cuts(self):
        cuts = 0
        for number in range(40):
            draw = seeded(191, number)
            world = World(drawn_tree(draw, draw.choice([1, 2, 3, 4])))
            settle(world)
            readers = [Reader() for _ in range(world.tree.houses)]
            told = [[] for _ in readers]
            for _ in range(200):
                act = drawn_act(draw, world, MOODS[number % len(MOODS)])
                do(world, act)
                for h, reader in enumerate(readers):
                    house = world.house(h)
                    if house is None or draw.random() < 0.5:
                        continue
                    if house.book[:len(reader.read)] == reader.read:
                        told[h] += reader.follow(house.book)
                    else:
                        at = min(k for k, line in enumerate(reader.read) if house.book[k:k + 1] != (line,))
                        assert_told(self, Turned(at), reader.follow, house.book)
                        reader.forget(at)
                        told[h] = told[h][:at] + reader.follow(list(house.book))
                        cuts += 1
                    self.assertEqual((tuple(told[h]), reader.read), (house.book, house.book))
        self.assertGreater(cuts, 10)

    def test_a_house_without_cuts_tells_each_line_once(self):
        for number in range(20):
            draw = seeded(1910, number)
            world = World(drawn_tree(draw, draw.choice([2, 3, 4])))
            settle(world)
            reader, told = Reader(), []
            for _ in range(200):
                act = drawn_act(draw, world, MOODS[1])
                do(world, act if act[:2] != ("cut", 0) else ("rise", 0))
                if world.house(0):
                    told += reader.follow(world.house(0).book)
            settle(world)
            told += reader.follow(world.house(0).book)
            self.assertEqual(tuple(told), world.house(0).book)


if __name__ == "__main__":
    unittest.main()
