"""Numbers: the shape of a number and the number of a shape, in the order of rows [2, 10]."""

import copy
import itertools
import time
import unittest

from hoopcord.counting import how_many
from hoopcord.errors import HoopError, NoBase, NoNumber, NoRow, NoShape, NoSpot, NoText
from hoopcord.numbering import number_of, shape_at
from hoopcord.shapes import is_shape, row_of
from hoopcord.texts import read_shape, show_shape
from listing import LISTED, all_shapes, book_of, in_a_row, nested
from reckoning import some_books, some_cords
from samples import BOOK, GREATEST_BOOK, HUGE, LEAST_BOOK, kinds_alike, with_part

ALIKE = book_of(0, "aa")


class Numbers(unittest.TestCase):
    def assert_number(self, book, cord, number, shape):
        with self.subTest(book=book, cord=cord, number=number, shape=shape):
            kept = copy.deepcopy((book, shape))
            for asked in range(2):
                self.assertTrue(kinds_alike(shape_at(book, cord, number), shape), shape_at(book, cord, number))
                self.assertTrue(kinds_alike(number_of(book, cord, shape), number), number_of(book, cord, shape))
            self.assertTrue(kinds_alike((book, shape), kept))

    def assert_numbers(self, book, cord, shapes):
        for number, shape in enumerate(shapes):
            self.assert_number(book, cord, number, shape)
        self.assert_refused(book, cord, len(shapes))

    def assert_refused(self, book, cord, number):
        with self.subTest(book=book, cord=cord, number=number):
            for taker in (NoNumber, HoopError, ValueError):
                with self.assertRaises(taker) as caught:
                    shape_at(book, cord, number)
                self.assertIs(type(caught.exception), NoNumber)
                self.assertNotIsInstance(caught.exception, (NoText, NoSpot, NoBase, NoShape, NoRow))

    def test_no_letters(self):
        for book in (LEAST_BOOK, BOOK, GREATEST_BOOK):
            self.assert_numbers(book, "", [()])

    def test_letters_without_a_hoop(self):
        self.assert_numbers(LEAST_BOOK, "abcdefghij", [()])
        self.assert_numbers(book_of(0, "ab"), "ba", [()])

    def test_shapes_listed_by_hand(self):
        for book, cord, texts in LISTED:
            self.assert_numbers(book, cord, [read_shape(len(cord), text) for text in texts])

    def test_the_order_is_that_of_rows_and_not_of_shapes_or_texts(self):
        shapes = [shape_at(ALIKE, "aaaa", number) for number in range(9)]
        self.assertEqual([row_of(4, shape) for shape in shapes], [
            [-1, -1, -1, -1], [-1, -1, 3, 2], [-1, 2, 1, -1], [-1, 3, -1, 1], [1, 0, -1, -1], [1, 0, 3, 2],
            [2, -1, 0, -1], [3, -1, -1, 0], [3, 2, 1, 0],
        ])
        self.assertNotEqual(shapes, sorted(shapes))
        self.assertNotEqual(shapes, sorted(shapes, key=lambda shape: show_shape(4, shape)))

    def test_a_partner_of_two_figures_comes_behind_one_of_one_figure(self):
        book, cord = book_of(0, "ab"), "a" + "c" * 7 + "bcb"
        self.assert_numbers(book, cord, [(), ((0, 8),), ((0, 10),)])

    def test_what_lies_within_counts_ahead_of_what_lies_behind(self):
        book, cord = book_of(0, "ab", "cd", "ef"), "acdbef"
        self.assert_numbers(book, cord, [read_shape(6, text) for text in (
            "......", "....()", ".()...", ".().()", "(..)..", "(..)()", "(())..", "(())()",
        )])

    def test_all_shapes_of_small_cords(self):
        for book in (BOOK, with_part(BOOK, 0, 0), GREATEST_BOOK, book_of(2, "ab", "aa", "ba")):
            for many in range(5):
                for letters in itertools.product("abe", repeat=many):
                    cord = "".join(letters)
                    self.assert_numbers(book, cord, all_shapes(book, cord))
            for cord in ("cceeabdd", "aghijzzg"):
                self.assert_numbers(book, cord, all_shapes(book, cord))

    def test_all_shapes_of_other_books(self):
        for book, cord in zip(some_books(60, 1), some_cords(60, 8, 2)):
            self.assert_numbers(book, cord, all_shapes(book, cord))

    def test_each_gap(self):
        for gap in range(7):
            for many in (gap + 1, gap + 2, gap + 3, 9):
                book, cord = book_of(gap, "aa"), "a" * many
                self.assert_numbers(book, cord, all_shapes(book, cord))

    def test_the_first_and_the_last_of_many(self):
        for gap in range(7):
            book = book_of(gap, "aa")
            for many in (12, 15, 19, 20):
                count = how_many(book, "a" * many)
                # The first spot's partner is the last one, and so on within.
                last = tuple((i, j) for i, j in nested(many) if j - i - 1 >= gap)
                self.assert_number(book, "a" * many, 0, ())
                self.assert_number(book, "a" * many, count - 1, last)
                self.assert_refused(book, "a" * many, count)

    def test_twenty_letters_alike_are_told_soon(self):
        begun = time.monotonic()
        cord = "a" * 20
        rows = []
        for number in range(0, 50852019, 508520):
            shape = shape_at(ALIKE, cord, number)
            self.assertIs(is_shape(ALIKE, cord, shape), True)
            self.assertEqual(number_of(ALIKE, cord, shape), number)
            rows.append(row_of(20, shape))
        self.assertEqual(rows, sorted(rows))
        self.assertEqual(shape_at(ALIKE, cord, number_of(ALIKE, cord, in_a_row(20))), in_a_row(20))
        self.assert_number(ALIKE, cord, 50852018, nested(20))
        self.assert_refused(ALIKE, cord, 50852019)
        self.assertLess(time.monotonic() - begun, 20)

    def test_neighbours_of_twenty_letters(self):
        cord = "a" * 20
        for middle in (1, 1000, 1234567, 25426009, 50852017):
            rows = [row_of(20, shape_at(ALIKE, cord, number)) for number in (middle - 1, middle, middle + 1)]
            self.assertTrue(rows[0] < rows[1] < rows[2], rows)

    def test_another_number_is_refused(self):
        for book, cord in ((LEAST_BOOK, ""), (LEAST_BOOK, "ab"), (ALIKE, "aaaa"), (BOOK, "abeabe"), (ALIKE, "a" * 20)):
            count = how_many(book, cord)
            for number in (count, count + 1, count + 2, 2 * count, 10 ** 14, HUGE, 10 * HUGE - 1):
                self.assert_refused(book, cord, number)
            for number in (-1, -2, -count, -count - 1, -10 ** 14, -HUGE, 1 - 10 * HUGE):
                self.assert_refused(book, cord, number)

    def test_behind_a_refusal_a_good_number_is_told_as_before(self):
        for number in (-1, 9, HUGE, -HUGE):
            self.assert_refused(ALIKE, "aaaa", number)
            self.assert_number(ALIKE, "aaaa", 8, ((0, 3), (1, 2)))
            self.assert_number(ALIKE, "aaaa", 0, ())


if __name__ == "__main__":
    unittest.main()
