"""Points [6], [41], [42] and the interface under neverunsaid/disks.py."""

import random
import unittest

from helpers import assert_invalid, is_int, run_examples, values_of_all_kinds
from neverunsaid.disks import Disk
from neverunsaid.errors import InvalidCount, InvalidSigns

EXAMPLES = """
>>> from neverunsaid.disks import Disk
>>> disk = Disk()
>>> disk.put("abc")
>>> disk.sync()
>>> disk.put("defg")
>>> [disk.text, disk.synced]
['abcdefg', 3]
>>> disk.fall(12)
>>> [disk.text, disk.synced]
['abcde', 5]
>>> disk.lose(9)
>>> disk.lose(2)
>>> [disk.text, disk.synced]
['ab', 2]
>>> disk.trim(3)
raises InvalidCount(3)
"""


def disk_with(synced, loose):
    disk = Disk()
    disk.put(synced)
    disk.sync()
    disk.put(loose)
    return disk


def state(disk):
    return (disk.text, disk.synced)


class SignBySign:
    """A disk as a list of signs that each know whether they are synced."""

    def __init__(self):
        self.signs = []

    def do(self, name, *given):
        if name == "put":
            self.signs += [[sign, False] for sign in given[0]]
        elif name == "fall":
            loose = [sign for sign in self.signs if not sign[1]]
            self.leave(len(self.signs) - len(loose) + given[0] % (len(loose) + 1))
        elif name == "sync":
            self.leave(len(self.signs))
        else:
            self.leave(given[0])

    def leave(self, many):
        self.signs = [[sign, True] for sign, _ in self.signs[:many]]

    def state(self):
        return ("".join(sign for sign, _ in self.signs), len([sign for sign in self.signs if sign[1]]))


class Points41And42(unittest.TestCase):
    def test_examples_of_the_interface(self):
        run_examples(self, EXAMPLES)

    def test_an_empty_disk(self):
        self.assertEqual(state(Disk()), ("", 0))
        for name, given in (("put", [""]), ("sync", []), ("trim", [0]), ("fall", [5]), ("lose", [5])):
            disk = Disk()
            self.assertIsNone(getattr(disk, name)(*given))
            self.assertEqual(state(disk), ("", 0))

    def test_what_is_put_is_not_synced_until_the_disk_is_told(self):
        disk = disk_with("abc", "de")
        self.assertEqual(state(disk), ("abcde", 3))
        self.assertIsNone(disk.put(" ~"))
        self.assertEqual(state(disk), ("abcde ~", 3))
        self.assertIsNone(disk.sync())
        self.assertEqual(state(disk), ("abcde ~", 7))

    def test_trims_at_all_places(self):
        for many in range(6):
            disk = disk_with("abc", "de")
            self.assertIsNone(disk.trim(many))
            self.assertEqual(state(disk), ("abcde"[:many], many))

    def test_falls_with_all_counts(self):
        for keep in list(range(12)) + [10 ** 20 - 1]:
            disk = disk_with("abc", "defg")
            left = 3 + keep % 5
            self.assertIsNone(disk.fall(keep))
            self.assertEqual(state(disk), ("abcdefg"[:left], left))
            again = disk_with("abc", "")
            again.fall(keep)
            self.assertEqual(state(again), ("abc", 3))

    def test_losses_with_all_counts(self):
        for many in list(range(9)) + [10 ** 20 - 1]:
            disk = disk_with("abc", "de")
            self.assertIsNone(disk.lose(many))
            self.assertEqual(state(disk), ("abcde"[:many], min(many, 5)))

    def test_drawn_runs_sign_by_sign(self):
        draw = random.Random(11)
        for _ in range(200):
            disk, signs = Disk(), SignBySign()
            for _ in range(40):
                size = len(disk.text)
                name = draw.choice(["put", "put", "put", "sync", "trim", "fall", "lose"])
                given = {"put": ["".join(draw.choice(" ab~.09") for _ in range(draw.randrange(6)))], "sync": [],
                         "trim": [draw.randint(0, size)], "fall": [draw.randrange(3 * size + 4)],
                         "lose": [draw.randrange(size + 5)]}[name]
                self.assertIsNone(getattr(disk, name)(*given))
                signs.do(name, *given)
                self.assertEqual(state(disk), signs.state())

    def test_wrong_signs(self):
        for value in values_of_all_kinds() + ["ab\n", "\tab", "a\nb", "\u00e9", "\x00"]:
            disk = disk_with("abc", "de")
            if isinstance(value, str) and all(" " <= sign <= "~" for sign in value):
                disk.put(value)
                self.assertEqual(state(disk), ("abcde" + value, 3))
            else:
                assert_invalid(self, InvalidSigns, value, disk.put, value)
                self.assertEqual(state(disk), ("abcde", 3))

    def test_wrong_counts(self):
        for value in values_of_all_kinds() + [5, 6]:
            for name, most in (("trim", 5), ("fall", None), ("lose", None)):
                disk = disk_with("abc", "de")
                if is_int(value) and value >= 0 and (most is None or value <= most):
                    getattr(disk, name)(value)
                else:
                    assert_invalid(self, InvalidCount, value, getattr(disk, name), value)
                    self.assertEqual(state(disk), ("abcde", 3))

    def test_two_disks_share_nothing(self):
        first, second = Disk(), Disk()
        first.put("abc")
        self.assertEqual(state(second), ("", 0))


if __name__ == "__main__":
    unittest.main()
