"""Cords: what is one, and which spots may be hooped [2, 4, 6]."""

import copy
import unittest

from hoopcord.cords import all_pairs, is_cord, may_hoop
from listing import book_of
from samples import BOOK, GREATEST_BOOK, HUGE, LEAST_BOOK, LETTERS, NO_TEXTS, SIGNS, kinds_alike, with_part


class IsCord(unittest.TestCase):
    def assert_cord(self, thing, told):
        with self.subTest(thing=thing):
            kept = copy.deepcopy(thing)
            self.assertIs(is_cord(thing), told)
            self.assertIs(is_cord(thing), told)
            self.assertTrue(kinds_alike(thing, kept))

    def test_up_to_twenty_letters(self):
        for many in range(21):
            self.assert_cord("a" * many, True)
            self.assert_cord(LETTERS[26 - many:], True)

    def test_each_letter(self):
        for letter in LETTERS:
            self.assert_cord(letter, True)

    def test_twenty_one_letters_and_more(self):
        for many in (21, 22, 40, 210):
            self.assert_cord("a" * many, False)
        self.assert_cord(LETTERS, False)

    def test_a_sign_that_is_no_small_letter_at_any_place(self):
        for sign in SIGNS:
            if sign not in LETTERS:
                self.assert_cord(sign, False)
                for place in range(20):
                    self.assert_cord("a" * place + sign + "z" * (19 - place), False)

    def test_signs_beside_the_letters(self):
        for text in ("", "hoop", "zzz"):
            for sign in ("`", "{", "A", "Z", " "):
                self.assert_cord(text + sign, False)
                self.assert_cord(sign + text, False)

    def test_things_that_are_no_texts(self):
        for thing in NO_TEXTS:
            self.assert_cord(thing, False)


class MayHoop(unittest.TestCase):
    def assert_hooped(self, book, cord, i, j, told):
        with self.subTest(book=book, cord=cord, i=i, j=j):
            self.assertIs(may_hoop(book, cord, i, j), told)
            self.assertIs(may_hoop(book, cord, i, j), told)

    def test_in_the_one_order_of_letters_alone(self):
        book = book_of(0, "ab")
        self.assert_hooped(book, "ab", 0, 1, True)
        self.assert_hooped(book, "ba", 0, 1, False)
        self.assert_hooped(book_of(0, "ab", "ba"), "ba", 0, 1, True)

    def test_letters_without_a_hoop(self):
        for cord in ("aa", "bb", "ac", "cb", "zz"):
            self.assert_hooped(book_of(0, "ab"), cord, 0, 1, False)
        self.assert_hooped(LEAST_BOOK, "ab", 0, 1, False)

    def test_a_hoop_of_one_letter(self):
        self.assert_hooped(book_of(0, "aa"), "aa", 0, 1, True)

    def test_a_hoop_of_price_nought(self):
        self.assert_hooped(BOOK, "cxd", 0, 2, True)

    def test_just_the_gap_between_and_one_fewer(self):
        for gap in range(7):
            book = book_of(gap, "ab")
            for between in range(10):
                cord = "a" + "c" * between + "b"
                self.assert_hooped(book, cord, 0, between + 1, between >= gap)
                self.assert_hooped(book, "cc" + cord + "c", 2, between + 3, between >= gap)

    def test_equal_and_falling_numbers(self):
        book = book_of(0, "aa")
        for i in range(5):
            for j in range(i + 1):
                self.assert_hooped(book, "aaaaa", i, j, False)

    def test_no_order_but_the_cords_own(self):
        self.assert_hooped(book_of(0, "ab"), "ba", 1, 0, False)
        self.assert_hooped(book_of(0, "ab", "ba"), "ab", 1, 0, False)

    def test_numbers_that_are_no_spots(self):
        book = book_of(0, "aa")
        outside = (-HUGE, -6, -5, -2, -1, 5, 6, 100, HUGE)
        for number in outside:
            for spot in range(5):
                self.assert_hooped(book, "aaaaa", number, spot, False)
                self.assert_hooped(book, "aaaaa", spot, number, False)
            for other in outside:
                self.assert_hooped(book, "aaaaa", number, other, False)

    def test_a_cord_without_letters(self):
        for i in (-HUGE, -1, 0, 1, HUGE):
            for j in (-HUGE, -1, 0, 1, HUGE):
                self.assert_hooped(book_of(0, "aa"), "", i, j, False)

    def test_the_ends_of_twenty_letters(self):
        self.assert_hooped(book_of(6, "ab"), "a" + "c" * 18 + "b", 0, 19, True)
        self.assert_hooped(book_of(6, "ab"), "a" + "c" * 18 + "b", 0, 20, False)
        self.assert_hooped(book_of(6, "ab"), "a" + "c" * 18 + "b", -20, 19, False)


class AllPairs(unittest.TestCase):
    def assert_pairs(self, book, cord, told):
        with self.subTest(book=book, cord=cord):
            kept = copy.deepcopy(book)
            self.assertTrue(kinds_alike(all_pairs(book, cord), told), all_pairs(book, cord))
            self.assertTrue(kinds_alike(book, kept))

    def test_rising_pairs(self):
        self.assert_pairs(book_of(0, "ab"), "ab", [(0, 1)])
        self.assert_pairs(book_of(0, "ab"), "aabb", [(0, 2), (0, 3), (1, 2), (1, 3)])
        self.assert_pairs(book_of(0, "ba", "ab"), "abab", [(0, 1), (0, 3), (1, 2), (2, 3)])
        self.assert_pairs(book_of(0, "aa"), "aaa", [(0, 1), (0, 2), (1, 2)])

    def test_the_gap(self):
        self.assert_pairs(book_of(1, "ab"), "aabb", [(0, 2), (0, 3), (1, 3)])
        self.assert_pairs(book_of(2, "ab"), "aabb", [(0, 3)])
        self.assert_pairs(book_of(3, "ab"), "aabb", [])

    def test_hoops_of_price_nought(self):
        self.assert_pairs(BOOK, "cdcdcd", [(0, 3), (0, 5), (2, 5)])

    def test_none(self):
        self.assert_pairs(book_of(0, "ab"), "ba", [])
        self.assert_pairs(LEAST_BOOK, "abcdefghij", [])
        self.assert_pairs(book_of(0, "aa"), "a", [])

    def test_a_cord_without_letters(self):
        for book in (LEAST_BOOK, BOOK, GREATEST_BOOK):
            self.assert_pairs(book, "", [])

    def test_all_of_twenty_letters(self):
        pairs = [(i, j) for i in range(20) for j in range(i + 1, 20)]
        self.assert_pairs(book_of(0, "zz"), "z" * 20, pairs)
        self.assert_pairs(book_of(6, "zz"), "z" * 20, [(i, j) for i, j in pairs if j - i >= 7])

    def test_as_the_document_tells_pair_by_pair(self):
        for book in (LEAST_BOOK, BOOK, with_part(BOOK, 0, 0), GREATEST_BOOK):
            hoops = {(x, y) for x, y, price in book[1]}
            for cord in ("abcde", "edcba", "abababab", "cdeeabdcba", "aghijklmnzgz", LETTERS[:20], LETTERS[6:]):
                told = []
                for i, x in enumerate(cord):
                    for j, y in enumerate(cord):
                        if i < j and len(cord[i + 1:j]) >= book[0] and (x, y) in hoops:
                            told.append((i, j))
                self.assert_pairs(book, cord, told)
                asked = [(i, j) for i in range(-3, 23) for j in range(-3, 23) if may_hoop(book, cord, i, j)]
                self.assertEqual(asked, told)

    def test_every_list_is_new_and_the_askers_own(self):
        for book, cord in ((book_of(0, "ab"), "aabb"), (LEAST_BOOK, "ab"), (BOOK, "")):
            first = all_pairs(book, cord)
            second = all_pairs(book, cord)
            self.assertIsNot(first, second)
            kept = list(first)
            first.append((7, 8))
            first.reverse()
            self.assertEqual(second, kept)
            self.assert_pairs(book, cord, kept)
            second.clear()
            self.assert_pairs(book, cord, kept)


if __name__ == "__main__":
    unittest.main()
