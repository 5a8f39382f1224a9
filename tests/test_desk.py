"""The desk: its rows, their answers, and what is refused [2, 3, 22]."""

import itertools
import time
import unittest
from fractions import Fraction

from asking import AskCase
from hoopcord.counting import how_many
from hoopcord.desk import Desk
from hoopcord.errors import HoopError, NoBase, NoNumber, NoRow, NoShape, NoSpot, NoText
from hoopcord.full import how_many_full
from hoopcord.nearness import nearest
from hoopcord.numbering import shape_at
from hoopcord.pricing import price
from hoopcord.shapes import is_shape
from hoopcord.shares import free_share, share
from hoopcord.spectra import by_price
from hoopcord.texts import read_shape, show_shape
from listing import LISTED, book_of, full_by_hand
from reckoning import least_by_hand, some_books, some_cords
from samples import BOOK, GREATEST_BOOK, LEAST_BOOK, NO_TEXTS, SIGNS, with_part

# Of aabb: 0, 1, 0, 0, 0 and -4, the last one the nest.
NESTING = (0, (("a", "b", -3),), (("a", "b", "a", "b", -2),), (4, 3), (1, 2), (3, -1, 1))
ALIKE = book_of(0, "aa")

ASKED = list(zip(some_books(25, 51), some_cords(25, 7, 52))) + [
    (LEAST_BOOK, ""), (BOOK, ""), (LEAST_BOOK, "abc"), (BOOK, "abeabe"), (GREATEST_BOOK, "zzzzzzgggg"),
    (NESTING, "aabb"), (with_part(BOOK, 0, 0), "abab"), (ALIKE, "aaaaa"),
]

BY_HAND = (
    (NESTING, "aabb", (
        ("many", "6"), ("shape 0", "...."), ("shape 1", ".()."), ("shape 5", "(())"), ("number (())", "5"),
        ("number ....", "0"), ("number (..)", "4"), ("price (())", "-4"), ("price .().", "1"), ("price ....", "0"),
        ("least", "-4 (())"), ("prices", "-4:1, 0:4, 1:1"), ("share 0 3 2", "34/41"), ("share 0 1 2", "0/1"),
        ("share 0 3 1", "1/3"), ("free 0 2", "5/41"), ("free 3 1", "1/2"), ("nearest 2", "(()) 19/41"),
        ("nearest 1", ".... 1/1"), ("full", "1"), ("other (())", "none"),
    )),
    (NESTING, "abab", (
        ("many", "5"), ("full", "2"), ("other (())", "()()"), ("other ()()", "(())"), ("number (..)", "4"),
    )),
    (LEAST_BOOK, "", (
        ("many", "1"), ("shape 0", "-"), ("number -", "0"), ("price -", "0"), ("least", "0 -"), ("prices", "0:1"),
        ("nearest 1", "- 0/1"), ("nearest 9", "- 0/1"), ("full", "1"), ("other -", "none"),
    )),
    (LEAST_BOOK, "x", (
        ("many", "1"), ("shape 0", "."), ("number .", "0"), ("price .", "0"), ("least", "0 ."), ("prices", "0:1"),
        ("free 0 9", "1/1"), ("nearest 5", ". 0/1"), ("full", "0"),
    )),
)


def shown(text):
    """Tell a text as the desk shows it."""
    return text or "-"


class DeskCase(AskCase):
    def assert_answer(self, desk, row, told):
        with self.subTest(row=row):
            for asked in range(2):
                answer = desk.say(row)
                self.assertIs(type(answer), str)
                self.assertEqual(answer, told)

    def assert_no(self, made, desk, *rows):
        """Each row is refused with this class alone."""
        for row in rows:
            self.assert_refused(made, desk.say, row)


class Rows(DeskCase):
    def test_by_hand(self):
        for book, cord, rows in BY_HAND:
            desk = Desk(book, cord)
            for row, told in rows:
                self.assert_answer(desk, row, told)

    def test_as_the_functions_tell(self):
        for book, cord in ASKED:
            desk, many = Desk(book, cord), len(cord)
            self.assert_answer(desk, "many", str(how_many(book, cord)))
            self.assert_answer(desk, "full", str(how_many_full(cord)))
            told = ", ".join(f"{cost}:{count}" for cost, count in by_price(book, cord))
            self.assert_answer(desk, "prices", told)
            for number in range(0, how_many(book, cord), 3):
                shape = shape_at(book, cord, number)
                text = shown(show_shape(many, shape))
                self.assert_answer(desk, f"shape {number}", text)
                self.assert_answer(desk, f"number {text}", str(number))
                self.assert_answer(desk, f"price {text}", str(price(book, cord, shape)))

    def test_the_least(self):
        for book, cord in ASKED:
            cost, text = Desk(book, cord).say("least").split(" ")
            shape = read_shape(len(cord), "" if cord == "" else text)
            self.assertIs(is_shape(book, cord, shape), True)
            self.assertEqual(str(price(book, cord, shape)), cost)
            self.assertEqual(str(least_by_hand(book, cord)), cost)

    def test_shares_as_the_functions_tell(self):
        for book, cord in ASKED:
            desk = Desk(book, cord)
            for base in (1, 2, 9):
                shape, (top, bottom) = nearest(book, cord, base)
                self.assert_answer(desk, f"nearest {base}", f"{shown(show_shape(len(cord), shape))} {top}/{bottom}")
                for i in range(len(cord)):
                    top, bottom = free_share(book, cord, i, base)
                    self.assert_answer(desk, f"free {i} {base}", f"{top}/{bottom}")
                for i, j in itertools.combinations(range(len(cord)), 2):
                    top, bottom = share(book, cord, i, j, base)
                    self.assert_answer(desk, f"share {i} {j} {base}", f"{top}/{bottom}")

    def test_other_full_shapes(self):
        for cord in ("", "ab", "abab", "ababab", "aabbab", "abcdab", "abba", "cababd", "aababb"):
            # The book has no part in it.
            for book in (LEAST_BOOK, BOOK, ALIKE):
                desk, texts = Desk(book, cord), [show_shape(len(cord), shape) for shape in full_by_hand(cord)]
                self.assert_answer(desk, "full", str(len(texts)))
                for text in texts:
                    told = desk.say("other " + shown(text))
                    if len(texts) == 1:
                        self.assertEqual(told, "none")
                    else:
                        self.assertIn(told, texts)
                        self.assertNotEqual(told, text)

    def test_listed_shapes_by_number(self):
        for book, cord, texts in LISTED:
            desk = Desk(book, cord)
            self.assert_answer(desk, "many", str(len(texts)))
            for number, text in enumerate(texts):
                self.assert_answer(desk, f"shape {number}", text)
                self.assert_answer(desk, f"number {text}", str(number))

    def test_two_desks_by_turns(self):
        one, other = Desk(NESTING, "aabb"), Desk(ALIKE, "aaa")
        for turn in range(3):
            self.assert_answer(one, "many", "6")
            self.assert_answer(other, "many", "4")
            self.assert_answer(one, "shape 3", "(.).")
            self.assert_answer(other, "shape 3", "(.)")
            self.assert_answer(one, "least", "-4 (())")
            self.assert_answer(other, "least", "0 ...")
            self.assert_no(NoNumber, other, "shape 4")
            self.assert_no(NoShape, one, "price ()..")

    def test_twenty_letters_are_told_soon(self):
        begun = time.monotonic()
        desk = Desk(with_part(NESTING, 1, (("a", "a", -3),)), "a" * 20)
        self.assert_answer(desk, "many", "50852019")
        self.assert_answer(desk, "shape 50852018", "(" * 10 + ")" * 10)
        self.assert_answer(desk, "number " + "(" * 10 + ")" * 10, "50852018")
        self.assert_answer(desk, "full", "0")
        self.assertEqual(sum(int(word.split(":")[1]) for word in desk.say("prices").split(", ")), 50852019)
        whole = Fraction(desk.say("free 3 9"))
        for spot in range(20):
            if spot != 3:
                whole += Fraction(desk.say(f"share {min(spot, 3)} {max(spot, 3)} 9"))
        self.assertEqual(whole, 1)
        text, mean = desk.say("nearest 9").split(" ")
        self.assertEqual((len(text), Fraction(mean) > 0), (20, True))
        desk = Desk(BOOK, "ab" * 10)
        self.assert_answer(desk, "full", "16796")
        self.assertEqual(len(desk.say("other " + "()" * 10)), 20)
        self.assertLess(time.monotonic() - begun, 20)


class RefusingCase(DeskCase):
    def setUp(self):
        self.desk = Desk(NESTING, "aabb")

    def tearDown(self):
        # Behind each refusal a good row is answered as before.
        for row, told in BY_HAND[0][2]:
            self.assert_answer(self.desk, row, told)


class NoRows(RefusingCase):
    def test_no_text(self):
        for thing in NO_TEXTS + (b"many", ["many"], ("many",), ("shape", 0), 5):
            self.assert_no(NoRow, self.desk, thing)

    def test_no_words(self):
        self.assert_no(NoRow, self.desk, "", " ", "  ", " " * 210)

    def test_unknown_words(self):
        self.assert_no(NoRow, self.desk, "x", "Many", "MANY", "man", "manyy", "few", "table", "up_to 3", "far", "-")
        self.assert_no(NoRow, self.desk, "Shape 0", "shapes 0", "nearest_ 1", "number: (())", "none", "-4", "(())")
        self.assert_no(NoRow, self.desk, *[sign for sign in SIGNS])
        self.assert_no(NoRow, self.desk, *["many" + sign for sign in SIGNS], *[sign + "many" for sign in SIGNS])

    def test_a_word_more_or_less(self):
        for row in ("many", "least", "prices", "full"):
            self.assert_no(NoRow, self.desk, row + " 0", row + " (())", row + " " + row, row + " -")
        for row in ("shape", "nearest", "number", "price", "other"):
            self.assert_no(NoRow, self.desk, row)
        self.assert_no(NoRow, self.desk, "shape 0 0", "nearest 1 1", "number (()) (())", "price (()) 0", "other (()) -")
        self.assert_no(NoRow, self.desk, "share", "share 0", "share 0 3", "share 0 3 2 1")
        self.assert_no(NoRow, self.desk, "free", "free 0", "free 0 1 2")

    def test_blanks(self):
        for row, told in BY_HAND[0][2]:
            self.assert_no(NoRow, self.desk, " " + row, row + " ", "  " + row, row + "  ", " " + row + " ")
            if " " in row:
                self.assert_no(NoRow, self.desk, row.replace(" ", "  "), row.replace(" ", ""), row.replace(" ", "_"))
        self.assert_no(NoRow, self.desk, "share 0  3 2", "share 0 3  2", "share  0 3 2", "number ", "other ", "price ")
        self.assert_no(NoRow, self.desk, "shape ", "shape  ", "number  ", "free 0 ", "number  (())", "number (()) ")

    def test_numbers_that_are_none(self):
        words = ("00", "01", "007", "+0", "+1", "-0", "-00", "-01", "--1", "-", "+", "1-", "-+1", "1.", ".1", "1,0")
        words += ("1e1", "0x1", "1_0", "a", "x1", "1x", "(())", "....", "'1'", "1/1", "!", "~", "True", "None", "(1)")
        words += ("100000000000000", "-100000000000000", "0" * 15, "1" + "0" * 200, "9" * 15, "-" + "9" * 15)
        for word in words:
            self.assert_no(NoRow, self.desk, f"shape {word}", f"nearest {word}", f"free {word} 2", f"free 0 {word}")
            self.assert_no(NoRow, self.desk, f"share {word} 3 2", f"share 0 {word} 2", f"share 0 3 {word}")

    def test_each_sign_for_a_number(self):
        for sign in SIGNS:
            if sign not in "0123456789":
                self.assert_no(NoRow, self.desk, f"shape {sign}", f"shape 1{sign}", f"shape 1{sign}1", f"free 0 {sign}")
            if sign not in "0123456789-":
                self.assert_no(NoRow, self.desk, f"shape {sign}1")

    def test_a_wrong_row_ahead_of_all_else(self):
        self.assert_no(NoRow, self.desk, "number ((( ", "number (.. x", "price ()() 1", "share 9 9 00", "share 00 9 99")
        self.assert_no(NoRow, self.desk, "shape 99 ", "free 99 99 99", "free 99 +99", "nearest 010", "other xx xx")


class Refusals(RefusingCase):
    def test_shapes_that_are_not_written_so(self):
        words = ("...", ".....", "(()", "()", "((()))", "." * 200, "-", "--", "----", "((((", "))))", "(()(", ")(()")
        words += ("...x", "(..]", "[..]", "0000", "....x", "x", "none", "<..>", "....!", "5", "aabb", ".-..", "((.)")
        for word in words:
            for row in ("number", "price", "other"):
                self.assert_no(NoText, self.desk, f"{row} {word}")

    def test_each_sign_in_a_shape(self):
        for sign in SIGNS:
            if sign not in " .()":
                for row in ("number", "price", "other"):
                    self.assert_no(NoText, self.desk, f"{row} (.{sign})", f"{row} {sign}...", f"{row} ...{sign}")

    def test_shapes_of_a_cord_without_letters(self):
        desk = Desk(BOOK, "")
        for row in ("number", "price", "other"):
            for word in (".", "()", "--", "0", "none", "x"):
                self.assert_no(NoText, desk, f"{row} {word}")
            self.assert_no(NoRow, desk, row, row + " ", row + "  ", row + " - -")
            self.assert_answer(desk, row + " -", "none" if row == "other" else "0")

    def test_a_dash_for_a_cord_of_one_letter(self):
        for row in ("number", "price", "other"):
            self.assert_no(NoText, Desk(BOOK, "a"), row + " -")

    def test_shapes_that_the_cord_and_book_have_not(self):
        for word in ("()..", "..()", "()()"):
            self.assert_no(NoShape, self.desk, f"number {word}", f"price {word}")
        self.assert_no(NoShape, Desk(BOOK, "ab"), "number ()", "price ()")
        self.assert_no(NoShape, Desk(LEAST_BOOK, "ab"), "number ()", "price ()")

    def test_full_shapes_that_the_cord_has_not(self):
        # Shapes of the cord and book that are not full; full ones of other cords; neither.
        self.assert_no(NoShape, self.desk, "other ....", "other (..)", "other .().", "other ()()", "other ()..")
        self.assert_no(NoShape, Desk(ALIKE, "aa"), "other ()", "other ..")
        self.assert_no(NoShape, Desk(ALIKE, "a"), "other .")
        self.assert_no(NoShape, Desk(BOOK, "aba"), "other ().", "other .()", "other ...")

    def test_full_shapes_that_are_none_of_the_book(self):
        desk = Desk(LEAST_BOOK, "abab")
        self.assert_answer(desk, "other (())", "()()")
        self.assert_no(NoShape, desk, "number (())", "price (())")

    def test_numbers_that_no_shape_has(self):
        for number in (6, 7, 100, 10 ** 13, 10 ** 14 - 1, -1, -6, -10 ** 13, 1 - 10 ** 14):
            self.assert_no(NoNumber, self.desk, f"shape {number}")
        self.assert_no(NoNumber, Desk(BOOK, ""), "shape 1", "shape -1")

    def test_bases_that_are_none(self):
        for base in (0, 10, 11, -1, -9, 99, 10 ** 14 - 1, 1 - 10 ** 14):
            self.assert_no(NoBase, self.desk, f"nearest {base}", f"free 0 {base}", f"share 0 3 {base}")
        self.assert_no(NoBase, Desk(BOOK, ""), "nearest 0", "nearest 10")

    def test_spots_that_are_none(self):
        for spot in (4, 5, -1, -4, 99, 10 ** 14 - 1, 1 - 10 ** 14):
            self.assert_no(NoSpot, self.desk, f"free {spot} 2", f"share {spot} 3 2", f"share 0 {spot} 2")
        self.assert_no(NoSpot, self.desk, "share 0 0 1", "share 3 3 1", "share 3 0 1", "share 2 1 9")
        self.assert_no(NoSpot, Desk(BOOK, ""), "free 0 1", "share 0 1 1", "share 0 0 1")

    def test_a_base_and_a_spot_that_are_none(self):
        self.assert_no(NoBase, self.desk, "free 4 0", "free -1 10", "share 0 4 0", "share 3 0 10", "share 4 9 -1")

    def test_all_are_refusals(self):
        for row in ("x", "number x", "number ()()", "shape 6", "nearest 0", "free 4 1"):
            with self.assertRaises(HoopError):
                self.desk.say(row)


if __name__ == "__main__":
    unittest.main()
