"""Points [6], [52] and the interface under neverunsaid/logs.py."""

import random
import unittest

from helpers import assert_invalid, run_examples, values_of_all_kinds
from neverunsaid.disks import Disk
from neverunsaid.errors import InvalidLines
from neverunsaid.frames import framed
from neverunsaid.logs import Log
from neverunsaid.texts import is_line, line_text

EXAMPLES = """
>>> from neverunsaid.disks import Disk
>>> from neverunsaid.logs import Log
>>> disk = Disk()
>>> log = Log(disk)
>>> log.put([(0, 0, "bell", "rings"), (2, 0, "bell", "")])
>>> [len(log), log.lines[1], disk.synced]
[2, (2, 0, 'bell', ''), 33]
>>> disk.lose(32)
>>> again = Log(disk)
>>> [again.lines, disk.text]
[((0, 0, 'bell', 'rings'),), '00140 0 bell rings.']
"""
LINES = [(0, 0, "bell", "rings"), (2, 0, "bell", ""), (0, 0, "bell", "rings"), (10, 3, "a", " 0001a."), (1, 1, "door", "x" * 40)]


def frames_of(lines):
    return "".join(framed(line_text(line)) for line in lines)


def state(log):
    return (log.lines, len(log), log.disk.text, log.disk.synced)


def disk_with(synced, loose=""):
    disk = Disk()
    disk.put(synced)
    disk.sync()
    disk.put(loose)
    return disk


class Point52(unittest.TestCase):
    def assert_holds(self, log, lines):
        signs = frames_of(lines)
        self.assertEqual(state(log), (tuple(lines), len(lines), signs, len(signs)))
        self.assertIs(type(log.lines), tuple)

    def test_examples_of_the_interface(self):
        run_examples(self, EXAMPLES)

    def test_lines_are_put_in_order_and_synced(self):
        disk = Disk()
        log = Log(disk)
        self.assertIs(log.disk, disk)
        self.assert_holds(log, [])
        for at, line in enumerate(LINES):
            self.assertIsNone(log.put([line] if at else (line,)))
            self.assert_holds(log, LINES[:at + 1])
        self.assertIsNone(log.put(lines=LINES))
        self.assert_holds(log, LINES + LINES)
        self.assert_holds(Log(disk), LINES + LINES)

    def test_an_empty_list_changes_nothing(self):
        log = Log(Disk())
        log.put(LINES)
        log.disk.put("by hand")
        for nothing in ([], ()):
            self.assertIsNone(log.put(nothing))
            self.assertEqual((log.disk.text, log.disk.synced), (frames_of(LINES) + "by hand", len(frames_of(LINES))))
            self.assertEqual(log.lines, tuple(LINES))

    def test_losses_at_every_place(self):
        signs = frames_of(LINES)
        ends = [len(frames_of(LINES[:many])) for many in range(len(LINES) + 1)]
        for cut in range(len(signs) + 2):
            elder = Log(Disk())
            elder.put(LINES)
            elder.disk.lose(cut)
            left = LINES[:len([end for end in ends if 0 < end <= cut])]
            self.assert_holds(Log(elder.disk), left)
            self.assertEqual((elder.lines, len(elder)), (tuple(LINES), len(LINES)))

    def test_falls_leave_all_that_was_put(self):
        for keep in range(40):
            log = Log(Disk())
            log.put(LINES)
            log.disk.fall(keep)
            self.assert_holds(Log(log.disk), LINES)
            log.disk.put(frames_of(LINES[:1]))
            log.disk.fall(keep)
            many = len(frames_of(LINES[:1]))
            self.assert_holds(Log(log.disk), LINES + LINES[:1] if keep % (many + 1) == many else LINES)

    def test_frames_whose_texts_are_no_lines(self):
        for wrong in ("", "2 0 bell", "02 0 bell x", "2 0 Bell x", "x" * 9999, "1" * 9999, "0 0 a " + "b" * 41):
            for many in range(len(LINES) + 1):
                signs = frames_of(LINES[:many]) + framed(wrong) + frames_of(LINES[many:])
                for disk in (disk_with(signs), disk_with("", signs)):
                    self.assert_holds(Log(disk), LINES[:many])

    def test_signs_put_by_hand_ahead_of_a_new_log(self):
        good = frames_of(LINES)
        for hand in ("x", "0001", "0001a", "00", "0002ab", ".", " "):
            for disk in (disk_with(good, hand), disk_with("", good + hand), disk_with(good + hand)):
                log = Log(disk)
                self.assert_holds(log, LINES)
                log.put(LINES[:1])
                self.assert_holds(log, LINES + LINES[:1])

    def test_drawn_falls_and_losses(self):
        draw = random.Random(4)
        for _ in range(100):
            disk = Disk()
            held = []
            for _ in range(12):
                log = Log(disk)
                self.assertEqual(list(log.lines), held[:len(log)])
                put = [draw.choice(LINES) for _ in range(draw.randrange(4))]
                held = list(log.lines) + put
                log.put(put)
                self.assert_holds(log, held)
                if draw.random() < 0.5:
                    disk.fall(draw.randrange(9))
                    self.assertEqual(Log(disk).lines, tuple(held))
                else:
                    disk.lose(draw.randrange(len(disk.text) + 3))

    def test_wrong_lines_change_nothing(self):
        for value in values_of_all_kinds():
            log = Log(Disk())
            log.put(LINES[:2])
            if isinstance(value, (list, tuple)) and all(is_line(item) for item in value):
                log.put(value)
                self.assert_holds(log, LINES[:2] + list(value))
            else:
                assert_invalid(self, InvalidLines, value, log.put, value)
                self.assert_holds(log, LINES[:2])
            if not is_line(value):
                for at in range(3):
                    spoilt = LINES[:at] + [value] + LINES[at:3]
                    held = log.lines
                    assert_invalid(self, InvalidLines, spoilt, log.put, spoilt)
                    self.assertEqual(log.lines, held)
                    self.assert_holds(log, list(held))

    def test_a_changed_list_changes_no_log(self):
        log = Log(Disk())
        lines = list(LINES[:2])
        log.put(lines)
        lines.append(LINES[3])
        lines[0] = None
        self.assert_holds(log, LINES[:2])


if __name__ == "__main__":
    unittest.main()
