"""Points [2], [4], [21], [22] and the interface under neverunsaid/texts.py."""

import random
import re
import unittest

from helpers import assert_invalid, run_examples, values_of_all_kinds
from neverunsaid.errors import InvalidLine, InvalidText
from neverunsaid.texts import is_cell, is_line, is_text, key, line_text, read_line

EXAMPLES = """
>>> from neverunsaid.texts import is_cell, is_line, is_text, key, line_text, read_line
>>> [is_cell("bell"), is_cell("Bell"), is_cell("ninelette"), is_text(""), is_text("a" * 41)]
[True, False, False, True, False]
>>> [is_line((2, 0, "bell", "rings at five")), is_line([2, 0, "bell", ""]), is_line((2, -1, "bell", "")), key((2, 10, "bell", ""))]
[True, False, False, (2, 10)]
>>> [line_text((2, 0, "bell", "rings at five")), line_text((12, 3, "gate", ""))]
['2 0 bell rings at five', '12 3 gate ']
>>> [read_line("12 3 gate "), read_line("0 1 a  b")]
[(12, 3, 'gate', ''), (0, 1, 'a', ' b')]
>>> read_line("02 0 bell rings")
raises InvalidText('02 0 bell rings')
>>> read_line("2 0 bell")
raises InvalidText('2 0 bell')
"""
LINE_FORM = re.compile("(0|[1-9][0-9]*) (0|[1-9][0-9]*) ([a-z]{1,8}) ([ -~]{0,40})", re.ASCII)
SIGNS = [chr(sign) for sign in range(32, 127)]


def cell_by_form(value):
    return type(value) is str and re.fullmatch("[a-z]{1,8}", value) is not None


def text_by_form(value):
    return type(value) is str and re.fullmatch("[ -~]{0,40}", value) is not None


def line_by_form(value):
    if type(value) is not tuple or len(value) != 4:
        return False
    whole = all(type(item) is int and item >= 0 for item in value[:2])
    return whole and cell_by_form(value[2]) and text_by_form(value[3])


def drawn_lines(draw, many):
    lines = []
    for _ in range(many):
        home, number = (draw.randrange(10 ** draw.randrange(1, 21)) for _ in range(2))
        cell = "".join(draw.choice("abcxyz") for _ in range(draw.randrange(1, 9)))
        text = "".join(draw.choice(SIGNS) for _ in range(draw.choice([0, 1, 2, 20, 39, 40])))
        lines.append((home, number, cell, text))
    return lines


class Point21(unittest.TestCase):
    def test_examples_of_the_interface(self):
        run_examples(self, EXAMPLES)

    def test_cells_at_their_bounds(self):
        for cell in ["a", "z", "ab", "eightlet", "zzzzzzzz"]:
            self.assertIs(is_cell(cell), True)
        for wrong in ["", "ninelette", "Bell", "bELL", "be ll", " bell", "bell ", "bell\n", "b1", "1", "`", "{", "b-c", "\u00e9"]:
            self.assertIs(is_cell(wrong), False)

    def test_each_sign_within_a_cell(self):
        for sign in [chr(code) for code in range(0, 300)]:
            self.assertIs(is_cell(sign), "a" <= sign <= "z")
            self.assertIs(is_cell("a" + sign), "a" <= sign <= "z")

    def test_texts_at_their_bounds(self):
        for text in ["", " ", "~", "a" * 40, "  two words  ", "".join(SIGNS[:40]), "".join(SIGNS[40:80])]:
            self.assertIs(is_text(text), True)
        for wrong in ["a" * 41, " " * 41, "\n", "\t", "a\nb", "a\t", "\r", "\x7f", "\x1f", "\u00e9"]:
            self.assertIs(is_text(wrong), False)

    def test_each_sign_within_a_text(self):
        for sign in [chr(code) for code in range(0, 300)]:
            self.assertIs(is_text(sign), " " <= sign <= "~")
            self.assertIs(is_text("a" + sign + "b"), " " <= sign <= "~")

    def test_any_value_is_judged(self):
        for value in values_of_all_kinds():
            self.assertIs(is_cell(value), cell_by_form(value), value)
            self.assertIs(is_text(value), text_by_form(value), value)
            self.assertIs(is_line(value), line_by_form(value), value)

    def test_any_value_at_any_place_of_a_line(self):
        right = (2, 0, "bell", "rings")
        for value in values_of_all_kinds():
            for at in range(4):
                line = right[:at] + (value,) + right[at + 1:]
                self.assertIs(is_line(line), line_by_form(line), line)

    def test_lines_need_just_four_items_in_a_tuple(self):
        right = (2, 0, "bell", "rings")
        for wrong in [list(right), right[:3], right + ("",), right[1:], (right,), "2 0 bell rings", {"a": right}]:
            self.assertIs(is_line(wrong), False)

    def test_keys(self):
        for line in drawn_lines(random.Random(1), 200):
            self.assertEqual(key(line), (line[0], line[1]))
            self.assertIs(type(key(line)), tuple)

    def test_wrong_lines_are_refused(self):
        for value in values_of_all_kinds():
            if not line_by_form(value):
                assert_invalid(self, InvalidLine, value, key, value)
                assert_invalid(self, InvalidLine, value, line_text, value)


class Point22(unittest.TestCase):
    def test_texts_of_lines_and_back(self):
        lines = drawn_lines(random.Random(2), 500) + [(0, 0, "a", ""), (10, 100, "b", " "), (0, 9, "c", "    x  ")]
        for line in lines:
            text = line_text(line)
            self.assertEqual(text, " ".join([str(line[0]), str(line[1]), line[2], line[3]]))
            self.assertEqual(read_line(text), line)
            self.assertIs(type(read_line(text)), tuple)

    def test_numbers_of_one_to_twenty_digits(self):
        for digits in range(1, 21):
            line = (10 ** (digits - 1), 10 ** digits - 1, "bell", "")
            self.assertEqual(read_line(line_text(line)), line)

    def test_empty_texts_end_in_a_space(self):
        self.assertEqual(line_text((1, 2, "a", "")), "1 2 a ")
        self.assertEqual(read_line("1 2 a   "), (1, 2, "a", "  "))

    def test_texts_of_forty_and_forty_one_signs(self):
        self.assertEqual(read_line("0 0 a " + "b" * 40), (0, 0, "a", "b" * 40))
        assert_invalid(self, InvalidText, "0 0 a " + "b" * 41, read_line, "0 0 a " + "b" * 41)

    def test_nearly_right_texts(self):
        wrong = ["", " ", "2 0 bell", "2 bell ", "2 0", "2", "02 0 bell x", "2 00 bell x", "+2 0 bell x", "-2 0 bell x",
                 "2 -0 bell x", "2 +0 bell x", " 2 0 bell x", "2  0 bell x", "2 0  bell x", "2 0 bell\tx", "2 0 bell x\n",
                 "2\n0 bell x", "2 0\tbell x", "2 0 Bell x", "2 0 ninelette x", "2 0  x", "2a 0 bell x", "2 0a bell x",
                 "a 0 bell x", "2 b bell x", "2.0 0 bell x", "2_0 0 bell x", "\u00b2 0 bell x", "\u0662 0 bell x", "0 0 0 bell x"]
        for text in wrong:
            assert_invalid(self, InvalidText, text, read_line, text)

    def test_every_single_change_of_a_text(self):
        for text in ["2 0 bell rings at five", "12 3 gate ", "0 1 a  b", "10 20 eightlet " + "x" * 40]:
            changed = [text[:at] + text[at + 1:] for at in range(len(text))]
            for sign in list(" 0123456789+-.:_aAz~") + ["\n", "\t"]:
                changed += [text[:at] + sign + text[at:] for at in range(len(text) + 1)]
                changed += [text[:at] + sign + text[at + 1:] for at in range(len(text))]
            for near in changed:
                told = LINE_FORM.fullmatch(near)
                if told is None:
                    assert_invalid(self, InvalidText, near, read_line, near)
                else:
                    self.assertEqual(read_line(near), (int(told[1]), int(told[2]), told[3], told[4]))

    def test_values_that_are_no_texts_of_lines(self):
        for value in values_of_all_kinds():
            if type(value) is not str or LINE_FORM.fullmatch(value) is None:
                assert_invalid(self, InvalidText, value, read_line, value)

    def test_long_texts_without_an_end_are_refused(self):
        for text in ["1" * 40000, "0" * 40000, " " * 40000, "a" * 40000, "1 " * 20000]:
            assert_invalid(self, InvalidText, text, read_line, text)


if __name__ == "__main__":
    unittest.main()
