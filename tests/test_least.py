"""The least price, with a shape that has it [2, 12]."""

import copy
import itertools
import time
import unittest

from hoopcord.counting import how_many
from hoopcord.least import least
from hoopcord.numbering import shape_at
from hoopcord.pricing import price
from hoopcord.shapes import is_shape
from listing import book_of, nested
from reckoning import least_by_hand, price_by_hand, some_books, some_cords
from samples import BOOK, GREATEST_BOOK, LEAST_BOOK, kinds_alike, with_part

HOOPS, NESTS, ENDS, BENDS, FORK = range(1, 6)

# A hoop costs 3 and its end 3 more: without nests, bends and forks no shape with hoops is cheap.
DEAR = (0, (("a", "b", 3),), (), (3,), (0,), (0, 0, 0))


class Least(unittest.TestCase):
    def assert_least(self, book, cord, told):
        """The told price, of a shape that has it; any such shape."""
        with self.subTest(book=book, cord=cord):
            kept = copy.deepcopy(book)
            for asked in range(2):
                answer = least(book, cord)
                self.assertIs(type(answer), tuple)
                number, shape = answer
                self.assertTrue(kinds_alike(number, told), answer)
                self.assertIs(is_shape(book, cord, shape), True, answer)
                self.assertEqual(price(book, cord, shape), told, answer)
                self.assertEqual(price_by_hand(book, cord, shape), told, answer)
            self.assertTrue(kinds_alike(book, kept))

    def assert_least_alone(self, book, cord, told, shape):
        """The told price, which one shape alone has."""
        self.assert_least(book, cord, told)
        self.assertTrue(kinds_alike(least(book, cord), (told, shape)), least(book, cord))

    def test_no_letters(self):
        for book in (LEAST_BOOK, BOOK, GREATEST_BOOK, DEAR):
            self.assert_least_alone(book, "", 0, ())

    def test_letters_without_a_hoop(self):
        self.assert_least_alone(LEAST_BOOK, "abcdefghij", 0, ())
        self.assert_least_alone(DEAR, "ba", 0, ())
        self.assert_least_alone(with_part(DEAR, HOOPS, (("a", "b", -9),)), "bbaa", 0, ())

    def test_all_prices_above_nought(self):
        for cord in ("ab", "aabb", "abab", "a" * 10 + "b" * 10):
            self.assert_least_alone(DEAR, cord, 0, ())

    def test_one_hoop(self):
        self.assert_least_alone(with_part(DEAR, HOOPS, (("a", "b", -4),)), "ab", -1, ((0, 1),))
        self.assert_least_alone(with_part(DEAR, ENDS, (-4,)), "xaxbx", -1, ((1, 3),))

    def test_one_hoop_of_several_as_cheap(self):
        self.assert_least(with_part(DEAR, ENDS, (3, -4)), "aabb", -1)

    def test_hoops_side_by_side(self):
        book = (0, (("a", "b", -4),), (("a", "b", "a", "b", 9),), (3,), (9,), (9, 0, 0))
        self.assert_least_alone(book, "abab", -2, ((0, 1), (2, 3)))
        self.assert_least_alone(book, "ab" * 10, -10, tuple((spot, spot + 1) for spot in range(0, 20, 2)))

    def test_below_nought_by_a_nest(self):
        book = with_part(DEAR, NESTS, (("a", "b", "a", "b", -9),))
        self.assert_least_alone(book, "ab", 0, ())
        self.assert_least(book, "aabb", 6 + 3 - 9)
        self.assert_least_alone(book, "aaabbb", 9 + 3 - 18, ((0, 5), (1, 4), (2, 3)))

    def test_below_nought_by_a_bend(self):
        book = (0, (("a", "b", 3),), (), (2,), (8, -9, 8), (0, 0, 0))
        self.assert_least_alone(book, "axabb", 0, ())
        self.assert_least_alone(book, "axxabxb", 0, ())
        self.assert_least_alone(book, "axabxb", 6 + 2 - 9, ((0, 5), (2, 3)))

    def test_below_nought_by_a_fork(self):
        book = with_part(DEAR, FORK, (-9, -4, 0))
        self.assert_least_alone(book, "aabb", 0, ())
        self.assert_least_alone(book, "aababb", 9 + 6 - 9 - 8, ((0, 5), (1, 2), (3, 4)))

    def test_free_spots_of_a_fork(self):
        book = with_part(DEAR, FORK, (-9, -4, -2))
        cord = "axabxabxb"
        self.assert_least_alone(book, cord, 9 + 6 - 9 - 8 - 6, ((0, 8), (2, 3), (5, 6)))

    def test_small_cords_against_all_shapes_by_number(self):
        for book in (BOOK, with_part(BOOK, 0, 0), GREATEST_BOOK, book_of(0, "ab", "ba")):
            for many in range(6):
                for letters in itertools.product("abe", repeat=many):
                    cord = "".join(letters)
                    prices = [price(book, cord, shape_at(book, cord, n)) for n in range(how_many(book, cord))]
                    self.assert_least(book, cord, min(prices))

    def test_other_books_against_all_sets_of_pairs(self):
        for book, cord in zip(some_books(150, 5), some_cords(150, 9, 6)):
            self.assert_least(book, cord, least_by_hand(book, cord))

    def test_forks_of_letters_alike(self):
        for fork in ((-9, -9, 2), (-9, 0, 0), (9, -9, -2), (0, -9, 1), (-5, 1, -1)):
            for own in (-1, 0, 4):
                book = (0, (("a", "a", own),), (), (1,), (9,), fork)
                for many in range(9):
                    self.assert_least(book, "a" * many, least_by_hand(book, "a" * many))

    def test_twenty_letters_are_told_soon(self):
        begun = time.monotonic()
        book = (0, (("a", "a", 1),), (("a", "a", "a", "a", -9),), (3,), (4,), (-2, -3, 1))
        self.assert_least_alone(book, "a" * 20, 10 + 3 - 81, nested(20))
        for book in (GREATEST_BOOK, BOOK):
            for cord in ("zg" * 10, "abe" * 6 + "ab"):
                told = least(book, cord)
                self.assertEqual(price(book, cord, told[1]), told[0])
        self.assertLess(time.monotonic() - begun, 20)


if __name__ == "__main__":
    unittest.main()
