"""Prices counted: of all shapes, of those with a hoop, and up to a number [2, 3, 14]."""

import itertools
import time
import unittest

from asking import AskCase
from hoopcord.counting import how_many
from hoopcord.cords import may_hoop
from hoopcord.least import least
from hoopcord.numbering import shape_at
from hoopcord.pricing import price
from hoopcord.spectra import by_price, hooped_by_price, up_to
from listing import book_of
from reckoning import counted, prices_by_hand, some_books, some_cords
from samples import BOOK, GREATEST_BOOK, HUGE, LEAST_BOOK, with_part

GAPLESS = with_part(BOOK, 0, 0)

# Every kind of ring costs something else.
TOLD_APART = (0, (("a", "b", 0), ("c", "d", 0)), (("a", "b", "c", "d", 9),), (1, 2, 3), (5, 7), (-8, 6, -2))

# The widest range of prices that twenty letters alike have.
WIDE = (
    0, (("a", "a", 9),), (("a", "a", "a", "a", -9),),
    (9, -9, 8, -7, 6, 3, 2, 5), (-9, 9, -8, 7, 4, 1, 2, 3), (9, -9, 2),
)

ASKED = [(book, cord) for book in (BOOK, GAPLESS, GREATEST_BOOK, LEAST_BOOK, book_of(0, "ab", "ba", "ee"))
         for many in range(5) for cord in map("".join, itertools.product("abe", repeat=many))]
ASKED += list(zip(some_books(120, 21), some_cords(120, 9, 22)))


class ByPrice(AskCase):
    def test_no_letters(self):
        for book in (LEAST_BOOK, BOOK, GREATEST_BOOK, WIDE, TOLD_APART):
            self.assert_told([(0, 1)], by_price, book, "")

    def test_letters_without_a_hoop(self):
        for book in (LEAST_BOOK, BOOK, GREATEST_BOOK, TOLD_APART):
            for cord in ("x", "xy", "xyxy", "x" * 20):
                self.assert_told([(0, 1)], by_price, book, cord)
        self.assert_told([(0, 1)], by_price, TOLD_APART, "bbaaddcc")

    def test_a_cord_by_hand(self):
        book = (0, (("a", "b", -3),), (("a", "b", "a", "b", -2),), (4, 3), (1, 2), (3, -1, 1))
        self.assert_told([(-4, 1), (0, 4), (1, 1)], by_price, book, "aabb")
        self.assert_told([(0, 2), (1, 1)], by_price, book, "aabx")

    def test_a_cord_by_hand_whose_hoops_cost_nothing(self):
        self.assert_told([(0, 9)], by_price, with_part(LEAST_BOOK, 1, (("a", "a", 0),)), "aaaa")

    def test_rings_without_a_hoop(self):
        for free, told in ((0, 1), (1, 2), (2, 3), (3, 3), (8, 3)):
            self.assert_told([(0, 1), (told, 1)], by_price, TOLD_APART, "a" + "x" * free + "b")

    def test_rings_of_one_hoop_by_their_free_spots(self):
        # None, the inner hoop, the outer one with all within it free, and both.
        for ahead, behind, told in ((0, 0, 0), (1, 0, 5), (0, 1, 5), (1, 1, 7), (0, 2, 7), (3, 2, 7)):
            cord = "c" + "x" * ahead + "ab" + "x" * behind + "d"
            self.assert_told(counted([0, 1, 3, told + 1]), by_price, TOLD_APART, cord)

    def test_nests_in_the_book_and_not(self):
        self.assert_told(counted([0, 1, 3, 9 + 1]), by_price, TOLD_APART, "acdb")
        self.assert_told(counted([0, 1, 3, 0 + 1]), by_price, TOLD_APART, "cabd")

    def test_rings_of_two_hoops_and_more(self):
        for many in (2, 3, 4):
            for free in (0, 1, 3):
                for ahead in range(free + 1):
                    cord = "c" + "x" * ahead + "ab" * many + "x" * (free - ahead) + "d"
                    told = prices_by_hand(TOLD_APART, cord)
                    whole = [cost for shape, cost in told if len(shape) == many + 1 and (1 + ahead, 2 + ahead) in shape]
                    self.assertIn(-8 + 6 * many - 2 * free + many, whole)
                    self.assert_told(counted([cost for shape, cost in told]), by_price, TOLD_APART, cord)

    def test_small_cords_against_all_shapes(self):
        for book, cord in ASKED:
            self.assert_told(counted([told for shape, told in prices_by_hand(book, cord)]), by_price, book, cord)

    def test_small_cords_against_all_shapes_by_number(self):
        for book, cord in ASKED[::3]:
            prices = [price(book, cord, shape_at(book, cord, number)) for number in range(how_many(book, cord))]
            self.assertEqual(by_price(book, cord), counted(prices), (book, cord))

    def test_rings_told_apart_against_all_shapes(self):
        for cord in ("caabbd", "cababd", "cacdbabd", "ccabddab", "aababbxb", "cxabxabxd"):
            self.assert_told(
                counted([told for shape, told in prices_by_hand(TOLD_APART, cord)]), by_price, TOLD_APART, cord)

    def test_letters_alike_against_all_shapes(self):
        for gap in range(7):
            book = with_part(WIDE, 0, gap)
            for many in range(9):
                prices = [told for shape, told in prices_by_hand(book, "a" * many)]
                self.assertEqual(by_price(book, "a" * many), counted(prices), (gap, many))

    def test_the_counts_come_to_how_many_and_begin_with_the_least(self):
        for book, cord in zip(some_books(30, 23), some_cords(30, 20, 24)):
            told = by_price(book, cord)
            self.assertEqual(sum(many for cost, many in told), how_many(book, cord))
            self.assertEqual(told[0][0], least(book, cord)[0])
            self.assertEqual([cost for cost, many in told], sorted({cost for cost, many in told}))
            self.assertGreaterEqual(min(many for cost, many in told), 1)

    def test_by_turns_of_two_books(self):
        first, second = by_price(GAPLESS, "aabbe"), by_price(WIDE, "aabbe")
        self.assertNotEqual(first, second)
        for turn in range(3):
            self.assert_told(first, by_price, GAPLESS, "aabbe")
            self.assert_told(second, by_price, WIDE, "aabbe")

    def test_twenty_letters_alike_are_told_soon(self):
        begun = time.monotonic()
        told = by_price(book_of(0, "aa"), "a" * 20)
        # By how many hoops there are, each of price 1: 20 spots, 2 k of them in one of the 1, 1, 2, 5, 14 .. ways.
        self.assertEqual(told, [
            (0, 1), (1, 190), (2, 9690), (3, 193800), (4, 1763580), (5, 7759752), (6, 16628040), (7, 16628040),
            (8, 6928350), (9, 923780), (10, 16796),
        ])
        told = by_price(WIDE, "a" * 20)
        self.assertEqual(sum(many for cost, many in told), 50852019)
        self.assertEqual(told[0][0], least(WIDE, "a" * 20)[0])
        self.assertLess(time.monotonic() - begun, 20)

    def test_prices_and_letters_beyond_the_bounds(self):
        book = (0, (("a", "a", 15), ("b", "b", -30)), (("a", "a", "b", "b", 40),), (11,), (-13,), (50, 60, 7))
        for cord in ("aaaa", "aabbaa", "abbaab", "abbbba"):
            prices = [told for shape, told in prices_by_hand(book, cord)]
            self.assertEqual(by_price(book, cord), counted(prices), cord)
        self.assertEqual(sum(many for cost, many in by_price(BOOK, "abe" * 8)), how_many(BOOK, "abe" * 8))


class HoopedByPrice(AskCase):
    def test_letters_without_a_hoop(self):
        self.assert_told([], hooped_by_price, LEAST_BOOK, "ab", 0, 1)
        self.assert_told([], hooped_by_price, TOLD_APART, "bbaa", 1, 2)

    def test_a_cord_by_hand(self):
        book = (0, (("a", "b", -3),), (("a", "b", "a", "b", -2),), (4, 3), (1, 2), (3, -1, 1))
        self.assert_told([], hooped_by_price, book, "aabb", 0, 1)
        self.assert_told([(0, 1)], hooped_by_price, book, "aabb", 0, 2)
        self.assert_told([(-4, 1), (0, 1)], hooped_by_price, book, "aabb", 0, 3)
        self.assert_told([(-4, 1), (1, 1)], hooped_by_price, book, "aabb", 1, 2)
        self.assert_told([(0, 1)], hooped_by_price, book, "aabb", 1, 3)
        self.assert_told([], hooped_by_price, book, "aabb", 2, 3)

    def test_small_cords_against_all_shapes(self):
        asked = ASKED[::2] + [(TOLD_APART, cord) for cord in ("cababd", "cacdbabd", "aababbxb", "cxabxabxd")]
        for book, cord in asked:
            priced = prices_by_hand(book, cord)
            for i, j in itertools.combinations(range(len(cord)), 2):
                told = counted([told for shape, told in priced if (i, j) in shape])
                self.assertEqual(told == [], not may_hoop(book, cord, i, j))
                self.assertEqual(hooped_by_price(book, cord, i, j), told, (book, cord, i, j))

    def test_small_cords_against_all_shapes_by_number(self):
        for book, cord in ((GAPLESS, "aabbe"), (WIDE, "aaaaaa"), (BOOK, "cabdee")):
            shapes = [shape_at(book, cord, number) for number in range(how_many(book, cord))]
            for i, j in itertools.combinations(range(len(cord)), 2):
                told = counted([price(book, cord, shape) for shape in shapes if (i, j) in shape])
                self.assert_told(told, hooped_by_price, book, cord, i, j)

    def test_twenty_letters_alike_are_told_soon(self):
        begun = time.monotonic()
        book = book_of(0, "aa")
        # A hoop around all, or of neighbours, leaves as many shapes as eighteen letters have.
        for i, j in ((0, 19), (0, 1), (18, 19)):
            self.assertEqual(sum(many for cost, many in hooped_by_price(book, "a" * 20, i, j)), 6536382)
        self.assertEqual(sum(many for cost, many in hooped_by_price(WIDE, "a" * 20, 9, 10)), 6536382)
        # Nine letters on either side of a hoop's first spot and within it, and none behind.
        self.assertEqual(sum(many for cost, many in hooped_by_price(WIDE, "a" * 20, 9, 19)), 835 * 835)
        self.assertLess(time.monotonic() - begun, 20)


class UpTo(AskCase):
    def test_a_cord_by_hand(self):
        book = (0, (("a", "b", -3),), (("a", "b", "a", "b", -2),), (4, 3), (1, 2), (3, -1, 1))
        told = ((-5, 0), (-4, 1), (-3, 1), (-1, 1), (0, 5), (1, 6), (2, 6))
        for number, many in told + ((-HUGE, 0), (1 - 10 * HUGE, 0), (HUGE, 6), (10 * HUGE - 1, 6)):
            self.assert_told(many, up_to, book, "aabb", number)

    def test_no_letters(self):
        for number, many in ((-HUGE, 0), (-1, 0), (0, 1), (1, 1), (HUGE, 1)):
            self.assert_told(many, up_to, BOOK, "", number)

    def test_every_number_between(self):
        for book, cord in ASKED[::7]:
            prices = [told for shape, told in prices_by_hand(book, cord)]
            for number in range(min(prices) - 2, max(prices) + 3):
                told = len([one for one in prices if one <= number])
                self.assertEqual(up_to(book, cord, number), told, (book, cord, number))

    def test_twenty_letters_alike_are_told_soon(self):
        begun = time.monotonic()
        for number, many in ((-1, 0), (0, 1), (1, 191), (9, 50852019 - 16796), (10, 50852019), (HUGE, 50852019)):
            self.assertEqual(up_to(book_of(0, "aa"), "a" * 20, number), many)
        self.assertLess(time.monotonic() - begun, 20)


if __name__ == "__main__":
    unittest.main()
