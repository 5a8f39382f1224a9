"""Counts: how many shapes a cord and a book have [2, 9]."""

import copy
import itertools
import time
import unittest

from hoopcord.counting import how_many
from hoopcord.shapes import is_shape
from listing import LISTED, all_shapes, book_of
from samples import BOOK, GREATEST_BOOK, LEAST_BOOK, kinds_alike, with_part

# How many shapes 0, 1, 2 .. letters alike have, by gap.
BY_GAP = {
    0: [1, 1, 2, 4, 9, 21, 51, 127, 323, 835, 2188],
    1: [1, 1, 1, 2, 4, 8, 17, 37, 82, 185, 423],
    2: [1, 1, 1, 1, 2, 4, 8, 16, 33, 69, 146],
    3: [1, 1, 1, 1, 1, 2, 4, 8, 16, 32, 65],
    4: [1, 1, 1, 1, 1, 1, 2, 4, 8, 16, 32],
    5: [1, 1, 1, 1, 1, 1, 1, 2, 4, 8, 16],
    6: [1, 1, 1, 1, 1, 1, 1, 1, 2, 4, 8],
}


class HowMany(unittest.TestCase):
    def assert_count(self, book, cord, told):
        with self.subTest(book=book, cord=cord):
            kept = copy.deepcopy(book)
            for asked in range(2):
                self.assertTrue(kinds_alike(how_many(book, cord), told), how_many(book, cord))
            self.assertTrue(kinds_alike(book, kept))

    def test_no_letters(self):
        for book in (LEAST_BOOK, BOOK, GREATEST_BOOK):
            self.assert_count(book, "", 1)

    def test_one_letter(self):
        for letter in "aez":
            for book in (LEAST_BOOK, BOOK, GREATEST_BOOK):
                self.assert_count(book, letter, 1)

    def test_letters_without_a_hoop(self):
        self.assert_count(LEAST_BOOK, "abcdefghij", 1)
        self.assert_count(book_of(0, "ab"), "c" * 20, 1)
        self.assert_count(book_of(0, "ab"), "a" * 20, 1)

    def test_shapes_listed_by_hand(self):
        for book, cord, texts in LISTED:
            self.assertEqual(len(set(texts)), len(texts))
            self.assert_count(book, cord, len(texts))

    def test_letters_alike_by_gap(self):
        for gap, counts in BY_GAP.items():
            for many, count in enumerate(counts):
                self.assert_count(book_of(gap, "aa"), "a" * many, count)

    def test_letters_alike_by_the_place_of_the_last_ones_partner(self):
        for gap, counts in BY_GAP.items():
            for many in range(1, len(counts)):
                hooped = [counts[many - 2 - within] * counts[within] for within in range(gap, many - 1)]
                self.assertEqual(counts[many], counts[many - 1] + sum(hooped))

    def test_just_the_gap_between(self):
        for gap in range(7):
            for between in range(10):
                cord = "a" + "c" * between + "b"
                self.assert_count(book_of(gap, "ab"), cord, 2 if between >= gap else 1)

    def test_the_one_order_of_letters_alone(self):
        self.assert_count(book_of(0, "ab"), "bbbbaaaa", 1)
        self.assert_count(book_of(0, "ba"), "aaaabbbb", 1)
        self.assert_count(book_of(0, "ab"), "aaaabbbb", how_many(book_of(0, "ba"), "bbbbaaaa"))
        self.assert_count(book_of(0, "ab"), "aaabbb", 1 + 9 + 9 + 1)

    def test_hoops_of_price_nought(self):
        self.assert_count(BOOK, "cxd", 2)

    def test_prices_do_not_matter(self):
        for price in (-9, 0, 9):
            book = (0, (("a", "a", price),), (("a", "a", "a", "a", price),), (price,), (price,), (price, price, 2))
            self.assert_count(book, "aaaa", 9)

    def test_twenty_letters_alike_are_told_soon(self):
        begun = time.monotonic()
        self.assert_count(book_of(0, "aa"), "a" * 20, 50852019)
        self.assertLess(time.monotonic() - begun, 5)

    def test_against_every_set_of_pairs(self):
        for book in (LEAST_BOOK, BOOK, with_part(BOOK, 0, 0), GREATEST_BOOK, book_of(2, "ab", "aa", "ba")):
            for many in range(6):
                for letters in itertools.product("abe", repeat=many):
                    cord = "".join(letters)
                    self.assertEqual(how_many(book, cord), len(all_shapes(book, cord)), (book, cord))
            for cord in ("abababab", "cdeeabdc", "cceeaabbdd", "aghijzzg"):
                self.assert_count(book, cord, len(all_shapes(book, cord)))

    def test_all_that_is_counted_are_shapes(self):
        book = with_part(BOOK, 0, 0)
        for cord in ("abeab", "cdceed"):
            self.assertTrue(all(is_shape(book, cord, shape) for shape in all_shapes(book, cord)))


if __name__ == "__main__":
    unittest.main()
