"""Texts: how a shape is written and read, and where a text is refused [2, 7, 8]."""

import copy
import itertools
import unittest

from hoopcord.errors import HoopError, NoBase, NoNumber, NoRow, NoShape, NoSpot, NoText
from hoopcord.texts import read_shape, show_shape
from listing import bare_shapes, in_a_row, nested
from samples import HUGE, SIGNS, kinds_alike

WRITTEN = (
    (0, (), ""),
    (1, (), "."),
    (3, (), "..."),
    (2, ((0, 1),), "()"),
    (3, ((0, 2),), "(.)"),
    (4, ((0, 1), (2, 3)), "()()"),
    (4, ((0, 3), (1, 2)), "(())"),
    (5, ((1, 3),), ".(.)."),
    (9, ((0, 7), (1, 2), (4, 6)), "(().(.))."),
    (12, ((1, 10), (2, 9), (4, 5), (7, 8)), ".((.().()))."),
    (40, (), "." * 40),
    (40, ((0, 39),), "(" + "." * 38 + ")"),
    (40, nested(40), "(" * 20 + ")" * 20),
    (40, in_a_row(40), "()" * 20),
)


class ShowShape(unittest.TestCase):
    def test_texts(self):
        for many, shape, text in WRITTEN:
            with self.subTest(many=many, shape=shape):
                kept = copy.deepcopy(shape)
                for asked in range(2):
                    self.assertTrue(kinds_alike(show_shape(many, shape), text), show_shape(many, shape))
                self.assertTrue(kinds_alike(shape, kept))


class ReadShape(unittest.TestCase):
    def assert_read(self, many, text, shape):
        with self.subTest(many=many, text=text):
            for asked in range(2):
                told = read_shape(many, text)
                self.assertTrue(kinds_alike(told, shape), told)

    def assert_refused(self, many, text):
        with self.subTest(many=many, text=text):
            for taker in (NoText, HoopError, ValueError):
                with self.assertRaises(taker) as caught:
                    read_shape(many, text)
                self.assertIs(type(caught.exception), NoText)
                self.assertNotIsInstance(caught.exception, (NoNumber, NoSpot, NoBase, NoShape, NoRow))

    def test_texts(self):
        for many, shape, text in WRITTEN:
            self.assert_read(many, text, shape)

    def test_the_pairs_rise_though_the_inner_ones_are_shut_first(self):
        self.assert_read(8, "((())())", ((0, 7), (1, 4), (2, 3), (5, 6)))

    def test_whether_they_may_be_hooped_is_not_asked(self):
        self.assert_read(20, "()" * 10, in_a_row(20))

    def test_each_text_is_read_to_its_shape(self):
        for many in range(9):
            for shape in bare_shapes(many):
                text = show_shape(many, shape)
                self.assertEqual(len(text), many)
                self.assertTrue(kinds_alike(read_shape(many, text), shape), (many, shape))

    def test_every_small_text(self):
        for many in range(8):
            written = {show_shape(many, shape): shape for shape in bare_shapes(many)}
            for signs in itertools.product("().", repeat=many):
                text = "".join(signs)
                if text in written:
                    self.assertEqual(read_shape(many, text), written[text])
                    self.assertEqual(show_shape(many, written[text]), text)
                else:
                    self.assert_refused(many, text)

    def test_no_signs(self):
        self.assert_read(0, "", ())
        for many in (1, 2, 20, 40):
            self.assert_refused(many, "")
        for text in (".", "()", "-", " "):
            self.assert_refused(0, text)

    def test_a_sign_less_and_a_sign_more(self):
        for many, shape, text in WRITTEN:
            self.assert_refused(many + 1, text)
            self.assert_refused(many, text + ".")
            self.assert_refused(many, "." + text)
            self.assert_refused(many, text + "()")
            if many > 0:
                self.assert_refused(many - 1, text)

    def test_lengths_far_off(self):
        for many in (-HUGE, -5, -1, 0, 41, 210, HUGE):
            self.assert_refused(many, "()...")
            self.assert_refused(many, ".....")
        self.assert_refused(20, "." * 210)
        self.assert_refused(20, "(" * 105 + ")" * 105)

    def test_other_signs_at_any_place(self):
        for sign in SIGNS:
            if sign not in "().":
                self.assert_refused(1, sign)
                for place in range(6):
                    self.assert_refused(7, "(.().)"[:place] + sign + "(.().)"[place:])
                    self.assert_refused(6, "......"[:place] + sign + "......"[place + 1:])

    def test_other_kinds_of_brackets(self):
        for pair in ("[]", "{}", "<>", "[)", "(]", "{)", "(>", "/\\"):
            self.assert_refused(2, pair)
            self.assert_refused(4, "(" + pair + ")")
            self.assert_refused(4, "()" + pair)

    def test_a_bracket_that_is_not_shut(self):
        for text in ("(", "(.", ".(", "()(", "(()", "((.)", "(().", "((((", "()()(", "(" * 40):
            self.assert_refused(len(text), text)

    def test_a_bracket_that_was_not_opened(self):
        for text in (")", ").", ".)", "())", ")()", "(.))", "())(", "))))", "()())", ")" * 40):
            self.assert_refused(len(text), text)

    def test_brackets_the_wrong_way_round(self):
        for text in (")(", ")(.", ".)(", ").(", "())(()", "))((", "())(", ")()("):
            self.assert_refused(len(text), text)

    def test_behind_a_refusal_texts_are_read_as_before(self):
        for wrong in ("((", "))", ")(", "x.", "..."):
            self.assert_refused(2, wrong)
            self.assert_read(2, "()", ((0, 1),))
            self.assert_read(2, "..", ())


if __name__ == "__main__":
    unittest.main()
