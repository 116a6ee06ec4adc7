"""Point [51] and the interface under neverunsaid/frames.py."""

import random
import unittest

from helpers import assert_invalid, run_examples, values_of_all_kinds
from neverunsaid.errors import InvalidSigns, InvalidText
from neverunsaid.frames import framed, frames_in

EXAMPLES = """
>>> from neverunsaid.frames import framed, frames_in
>>> [framed("ab"), framed("")]
['0002ab.', '0000.']
>>> frames_in("0002ab.0000.0003xy.")
(['ab', ''], 12)
>>> frames_in("2ab.")
([], 0)
"""
FIGURES = "0123456789"


def signs_by_form(value):
    return type(value) is str and all(" " <= sign <= "~" for sign in value)


def frames_one_by_one(signs):
    """The frames at the front, one after the other, by the words of the point."""
    texts, rest = [], signs
    while len(rest) >= 4 and all(sign in FIGURES for sign in rest[:4]):
        many = int(rest[:4])
        if len(rest) < many + 5 or rest[many + 4] != ".":
            break
        texts.append(rest[4:many + 4])
        rest = rest[many + 5:]
    return (texts, len(signs) - len(rest))


class Point51(unittest.TestCase):
    def test_examples_of_the_interface(self):
        run_examples(self, EXAMPLES)

    def test_frames_of_texts(self):
        self.assertEqual(framed(" "), "0001 .")
        self.assertEqual(framed("."), "0001..")
        self.assertEqual(framed("0000."), "00050000..")
        for many in (0, 1, 9, 10, 99, 100, 999, 1000, 9998, 9999):
            self.assertEqual(framed("x" * many), str(many).rjust(4, "0") + "x" * many + ".")
            self.assertEqual(frames_in(framed("x" * many)), (["x" * many], many + 5))

    def test_longer_texts_are_refused(self):
        for text in ("x" * 10000, " " * 40000):
            assert_invalid(self, InvalidText, text, framed, text)

    def test_many_frames_one_behind_the_other(self):
        draw = random.Random(3)
        for _ in range(200):
            texts = ["".join(draw.choice("0.a ~5") for _ in range(draw.randrange(12))) for _ in range(draw.randrange(10))]
            signs = "".join(framed(text) for text in texts)
            self.assertEqual(frames_in(signs), (texts, len(signs)))

    def test_rows_of_frames_cut_at_every_place(self):
        for texts in (["ab", "", "x.y", "0001a."], ["", "", ""], ["0000.", "."]):
            signs = "".join(framed(text) for text in texts)
            ends = [len("".join(framed(text) for text in texts[:many])) for many in range(len(texts) + 1)]
            for cut in range(len(signs) + 1):
                many = len([end for end in ends if 0 < end <= cut])
                self.assertEqual(frames_in(signs[:cut]), (texts[:many], ends[many]))

    def test_every_single_change_of_a_row(self):
        for signs in ("0002ab.0000.0003xy.", "0005.00001.0001..0010" + "9" * 10 + "."):
            changed = [signs[:at] + signs[at + 1:] for at in range(len(signs))]
            for sign in "0129a. +-_~":
                changed += [signs[:at] + sign + signs[at:] for at in range(len(signs) + 1)]
                changed += [signs[:at] + sign + signs[at + 1:] for at in range(len(signs))]
            for near in changed:
                self.assertEqual(frames_in(near), frames_one_by_one(near), near)

    def test_figures_that_are_none(self):
        for signs in ("+002ab.", "-001a.", " 002ab.", "0 02ab.", "00_2ab.", "0x02ab.", "002ab.", "00002ab.", "a", "000", ".", "0000"):
            self.assertEqual(frames_in(signs), frames_one_by_one(signs))
            self.assertEqual(frames_in("0001a." + signs)[0][:1], ["a"])
        self.assertEqual(frames_in(""), ([], 0))

    def test_lists_are_new_on_each_call(self):
        first = frames_in("0001a.")
        self.assertEqual((type(first), type(first[0])), (tuple, list))
        first[0].append("b")
        self.assertEqual(frames_in("0001a."), (["a"], 6))

    def test_any_value_is_judged(self):
        for value in values_of_all_kinds() + ["0001a.\n", "a\tb", "\u0660\u0660\u0660\u0660."]:
            if signs_by_form(value):
                self.assertEqual(framed(value)[4:], value + ".")
                self.assertEqual(frames_in(value), frames_one_by_one(value))
            else:
                assert_invalid(self, InvalidText, value, framed, value)
                assert_invalid(self, InvalidSigns, value, frames_in, value)


if __name__ == "__main__":
    unittest.main()
