"""Prices: what a ring adds, what a hoop costs in a shape, what a shape costs [2, 11]."""

import copy
import unittest

from hoopcord.pricing import hoop_price, price, ring_price
from listing import all_shapes, nested
from reckoning import hoop_price_by_hand, price_by_hand, ring_price_by_hand, some_books, some_cords
from samples import BOOK, GREATEST_BOOK, LEAST_BOOK, kinds_alike, with_part

# Each price another one.
TELLING = (
    0,
    (("a", "b", -3), ("b", "a", 2), ("c", "d", 0), ("e", "e", 9)),
    (("a", "b", "c", "d", -7), ("b", "a", "c", "d", 6), ("c", "d", "c", "d", 0), ("e", "f", "g", "h", 8)),
    (4, 3, -2, 7),
    (1, -4, 5),
    (9, -1, 2),
)


class PriceCase(unittest.TestCase):
    def assert_told(self, ask, handed, told):
        with self.subTest(handed=handed):
            kept = copy.deepcopy(handed)
            for asked in range(2):
                answer = ask(*handed)
                self.assertTrue(kinds_alike(answer, told), answer)
            self.assertTrue(kinds_alike(handed, kept))


class RingPrice(PriceCase):
    def assert_ring(self, cord, hoop, inner, free, told, book=TELLING):
        self.assert_told(ring_price, (book, cord, hoop, inner, free), told)

    def test_no_hoop_within(self):
        for free, told in enumerate((4, 3, -2, 7, 7, 7, 7)):
            self.assert_ring("a" + "x" * free + "b", (0, free + 1), [], free, told)
        self.assert_ring("a" + "x" * 18 + "b", (0, 19), [], 18, 7)

    def test_each_number_of_ends(self):
        for many in range(1, 9):
            ends = tuple(range(-4, many - 4))
            for free in range(19):
                told = free - 4 if free < many - 1 else many - 5
                self.assert_ring("a" * 20, (0, free + 1), [], free, told, with_part(BOOK, 3, ends))

    def test_one_hoop_and_no_free_spot(self):
        self.assert_ring("acdb", (0, 3), [(1, 2)], 0, -7)
        self.assert_ring("bcda", (0, 3), [(1, 2)], 0, 6)
        self.assert_ring("ccdd", (0, 3), [(1, 2)], 0, 0)
        self.assert_ring("xxaccddbx", (2, 7), [(3, 6)], 0, -7)

    def test_one_hoop_without_its_nest(self):
        self.assert_ring("aabb", (0, 3), [(1, 2)], 0, 0)
        self.assert_ring("abab", (0, 3), [(1, 2)], 0, 0)

    def test_the_letters_of_a_nest_the_other_way_round(self):
        self.assert_ring("adcb", (0, 3), [(1, 2)], 0, 0)
        self.assert_ring("bdca", (0, 3), [(1, 2)], 0, 0)
        self.assert_ring("cabd", (0, 3), [(1, 2)], 0, 0)
        self.assert_ring("cbad", (0, 3), [(1, 2)], 0, 0)

    def test_one_letter_other_than_the_nests(self):
        for cord in ("xcdb", "axdb", "acxb", "acdx"):
            self.assert_ring(cord, (0, 3), [(1, 2)], 0, 0)

    def test_one_hoop_and_free_spots(self):
        for free, told in ((1, 1), (2, -4), (3, 5), (4, 5), (5, 5), (16, 5)):
            for ahead in range(free + 1):
                cord = "a" + "x" * ahead + "cd" + "x" * (free - ahead) + "b"
                self.assert_ring(cord, (0, free + 3), [(ahead + 1, ahead + 2)], free, told)

    def test_each_number_of_bends(self):
        for many in range(1, 9):
            bends = tuple(range(-4, many - 4))
            for free in range(1, 17):
                told = free - 5 if free < many else many - 5
                self.assert_ring("a" * 20, (0, free + 3), [(1, 2)], free, told, with_part(BOOK, 4, bends))

    def test_two_hoops_and_more(self):
        for many in range(2, 10):
            inner = [(2 * k + 1, 2 * k + 2) for k in range(many)]
            for free in range(19 - 2 * many):
                told = 9 - many + 2 * free
                self.assert_ring("a" * 20, (0, 2 * many + free + 1), inner, free, told)

    def test_two_hoops_take_no_nest_and_no_end(self):
        self.assert_ring("acdcdb", (0, 5), [(1, 2), (3, 4)], 0, 9 - 2)
        self.assert_ring("acxdcdxb", (0, 7), [(1, 3), (4, 5)], 1, 9 - 2 + 2)

    def test_each_part_of_the_fork(self):
        for fork, told in (((5, 0, 0), 5), ((0, 5, 0), 15), ((0, 0, 2), 8), ((0, 0, -2), -8), ((-9, 9, 1), 22)):
            self.assert_ring("a" * 20, (0, 11), [(1, 2), (3, 4), (5, 6)], 4, told, with_part(BOOK, 5, fork))

    def test_pairs_that_may_not_be_hooped(self):
        self.assert_ring("eghf", (0, 3), [(1, 2)], 0, 8)
        self.assert_ring("xyzw", (0, 3), [(1, 2)], 0, 0)
        self.assert_ring("xyzw", (0, 3), [], 2, -2)
        self.assert_ring("xyzwv", (0, 4), [(1, 2)], 1, 1)
        self.assert_ring("xxxxxx", (0, 5), [(1, 2), (3, 4)], 0, 7)
        self.assert_ring("ab", (0, 1), [], 0, 4, with_part(TELLING, 0, 6))
        self.assert_ring("acdb", (0, 3), [(1, 2)], 0, -7, with_part(TELLING, 0, 6))

    def test_the_list_handed_in_is_not_changed(self):
        inner = [(1, 2), (3, 4)]
        ring_price(TELLING, "acdcdb", (0, 5), inner, 0)
        self.assertEqual(inner, [(1, 2), (3, 4)])

    def test_as_the_document_tells_it(self):
        for book in (LEAST_BOOK, BOOK, GREATEST_BOOK, TELLING):
            for cord in ("zazaazaaaz", "abababababab", "acdcdcdbabcd"):
                for free in range(6):
                    for inner in ([], [(1, 2)], [(1, 4)], [(1, 2), (3, 4)], [(1, 3), (4, 6), (7, 8)]):
                        hoop = (0, 9)
                        told = ring_price_by_hand(book, cord, hoop, inner, free)
                        self.assert_ring(cord, hoop, inner, free, told, book)


class HoopPrice(PriceCase):
    def test_a_hoop_by_itself(self):
        self.assert_told(hoop_price, (TELLING, "ab", ((0, 1),), (0, 1)), -3 + 4)
        self.assert_told(hoop_price, (TELLING, "axb", ((0, 2),), (0, 2)), -3 + 3)
        self.assert_told(hoop_price, (TELLING, "bxxxxxa", ((0, 6),), (0, 6)), 2 + 7)

    def test_a_hoop_of_own_price_nought(self):
        self.assert_told(hoop_price, (TELLING, "cd", ((0, 1),), (0, 1)), 4)
        self.assert_told(hoop_price, (TELLING, "ccdd", ((0, 3), (1, 2)), (0, 3)), 0)

    def test_deep(self):
        cord, shape = "bacdxba", ((0, 6), (1, 5), (2, 3))
        self.assert_told(hoop_price, (TELLING, cord, shape, (0, 6)), 2 + 0)
        self.assert_told(hoop_price, (TELLING, cord, shape, (1, 5)), -3 + 1)
        self.assert_told(hoop_price, (TELLING, cord, shape, (2, 3)), 0 + 4)

    def test_side_by_side(self):
        cord, shape = "acdxbaebcdeb", ((0, 11), (1, 2), (5, 7), (8, 9))
        self.assert_told(hoop_price, (TELLING, cord, shape, (0, 11)), -3 + 9 - 3 + 2 * 3)
        self.assert_told(hoop_price, (TELLING, cord, shape, (1, 2)), 0 + 4)
        self.assert_told(hoop_price, (TELLING, cord, shape, (5, 7)), -3 + 3)
        self.assert_told(hoop_price, (TELLING, cord, shape, (8, 9)), 0 + 4)

    def test_what_lies_outside_or_deeper_does_not_matter(self):
        for shape in (((1, 8), (2, 7)), ((0, 9), (1, 8), (2, 7)), ((1, 8), (2, 7), (3, 4))):
            self.assert_told(hoop_price, (TELLING, "aacabxxdbb", shape, (1, 8)), -3 - 7)


class Price(PriceCase):
    def test_no_hoops(self):
        for book in (LEAST_BOOK, BOOK, GREATEST_BOOK, TELLING):
            for cord in ("", "a", "abab", "z" * 20):
                self.assert_told(price, (book, cord, ()), 0)

    def test_the_sum_of_the_hoops(self):
        self.assert_told(price, (TELLING, "ab", ((0, 1),)), 1)
        self.assert_told(price, (TELLING, "abab", ((0, 1), (2, 3))), 2)
        self.assert_told(price, (TELLING, "acdb", ((0, 3), (1, 2))), (-3 - 7) + (0 + 4))
        self.assert_told(price, (TELLING, "bacdxba", ((0, 6), (1, 5), (2, 3))), 2 - 2 + 4)
        self.assert_told(price, (TELLING, "acdxbaebcdeb", ((0, 11), (1, 2), (5, 7), (8, 9))), 9 + 4 + 0 + 4)

    def test_the_outermost_ring_adds_nothing(self):
        for cord in ("ab", "xab", "abx", "xxxabxxx"):
            at = cord.index("a")
            self.assert_told(price, (TELLING, cord, ((at, at + 1),)), 1)

    def test_hoops_of_own_price_nought(self):
        self.assert_told(price, (TELLING, "cd", ((0, 1),)), 4)
        self.assert_told(price, (TELLING, "ccdd", ((0, 3), (1, 2))), 4)
        self.assert_told(price, (LEAST_BOOK[:1] + ((("c", "d", 0),),) + LEAST_BOOK[2:], "ccdd", ((0, 3), (1, 2))), 0)

    def test_ten_hoops(self):
        book = (0, (("a", "a", 9),), (("a", "a", "a", "a", 9),), (9,), (9,), (9, 9, 2))
        self.assert_told(price, (book, "a" * 20, nested(20)), 180)
        book = (0, (("a", "a", -9),), (("a", "a", "a", "a", -9),), (-9,), (-9,), (-9, -9, -2))
        self.assert_told(price, (book, "a" * 20, nested(20)), -180)

    def test_as_the_document_tells_it(self):
        for book, cord in zip(some_books(60, 3) + [BOOK, TELLING], some_cords(60, 8, 4) + ["cabdabab", "aaccddbb"]):
            for shape in all_shapes(book, cord):
                self.assert_told(price, (book, cord, shape), price_by_hand(book, cord, shape))
                for hoop in shape:
                    told = hoop_price_by_hand(book, cord, shape, hoop)
                    self.assert_told(hoop_price, (book, cord, shape, hoop), told)


if __name__ == "__main__":
    unittest.main()
