"""Shares: of hoops, of free spots, all of them, and what is refused [2, 3, 15, 16]."""

import copy
import itertools
import time
import unittest
from fractions import Fraction

from asking import AskCase
from hoopcord.cords import all_pairs
from hoopcord.counting import how_many
from hoopcord.errors import NoBase, NoSpot
from hoopcord.fractions import plus, reduced
from hoopcord.numbering import shape_at
from hoopcord.pricing import price
from hoopcord.shares import all_shares, are_shares, free_share, share
from listing import book_of
from reckoning import part_by_hand, some_books, some_cords, weights_by_hand
from samples import BOOK, GREATEST_BOOK, HUGE, LEAST_BOOK, kinds_alike, with_part

GAPLESS = with_part(BOOK, 0, 0)
ALIKE = book_of(0, "aa")
FORKING = (0, (("a", "a", -3),), (("a", "a", "a", "a", -9),), (5, 3), (2, -7), (-5, -4, 2))

# Of aabb: 0, 1, 0, 0, 0 and -4, the last one the nest.
NESTING = (0, (("a", "b", -3),), (("a", "b", "a", "b", -2),), (4, 3), (1, 2), (3, -1, 1))

ASKED = list(zip(some_books(40, 31), some_cords(40, 8, 32))) + [
    (LEAST_BOOK, ""), (LEAST_BOOK, "abc"), (BOOK, "abeabe"), (GAPLESS, "aabbabcd"), (GREATEST_BOOK, "zzzzzzgggg"),
    (ALIKE, "aaaaaa"), (FORKING, "aaaaaaa"), (NESTING, "aabb"), (BOOK, ""), (BOOK, "a"),
]

NO_BASES = (0, 10, -1, 11, -9, 100, HUGE, -HUGE, 10 * HUGE - 1, 1 - 10 * HUGE)


class Share(AskCase):
    def test_a_cord_by_hand(self):
        # By base 1 each of the six weighs 1; by base 2 they weigh 2, 1, 2, 2, 2 and 32.
        self.assert_told((1, 3), share, NESTING, "aabb", 0, 3, 1)
        self.assert_told((1, 6), share, NESTING, "aabb", 0, 2, 1)
        self.assert_told((34, 41), share, NESTING, "aabb", 0, 3, 2)
        self.assert_told((33, 41), share, NESTING, "aabb", 1, 2, 2)
        self.assert_told((2, 41), share, NESTING, "aabb", 0, 2, 2)
        self.assert_told((1, 2), free_share, NESTING, "aabb", 0, 1)
        self.assert_told((5, 41), free_share, NESTING, "aabb", 0, 2)

    def test_spots_that_may_not_be_hooped(self):
        for base in range(1, 10):
            self.assert_told((0, 1), share, NESTING, "aabb", 0, 1, base)
            self.assert_told((0, 1), share, NESTING, "aabb", 2, 3, base)
            self.assert_told((0, 1), share, LEAST_BOOK, "ab", 0, 1, base)
            self.assert_told((0, 1), share, BOOK, "ab", 0, 1, base)
            self.assert_told((1, 1), free_share, LEAST_BOOK, "ab", 1, base)

    def test_small_cords_by_each_base_against_all_shapes(self):
        for book, cord in ASKED:
            for base in range(1, 10):
                weighed = weights_by_hand(book, cord, base)
                for i, j in itertools.combinations(range(len(cord)), 2):
                    told = part_by_hand(weighed, lambda shape: (i, j) in shape)
                    self.assertTrue(kinds_alike(share(book, cord, i, j, base), told), (book, cord, i, j, base))
                for i in range(len(cord)):
                    told = part_by_hand(weighed, lambda shape: i not in sum(shape, ()))
                    self.assertTrue(kinds_alike(free_share(book, cord, i, base), told), (book, cord, i, base))

    def test_small_cords_by_each_base_against_all_shapes_by_number(self):
        for book, cord in ((GAPLESS, "aabbe"), (FORKING, "aaaaaa"), (BOOK, "cabdee")):
            shapes = [shape_at(book, cord, number) for number in range(how_many(book, cord))]
            top = max(price(book, cord, shape) for shape in shapes)
            for base in range(1, 10):
                weights = [base ** (top - price(book, cord, shape)) for shape in shapes]
                for i, j in itertools.combinations(range(len(cord)), 2):
                    part = sum(weight for shape, weight in zip(shapes, weights) if (i, j) in shape)
                    self.assert_told(reduced(part, sum(weights)), share, book, cord, i, j, base)

    def test_nothing_handed_in_is_changed(self):
        for book, cord in ASKED[-6:-2]:
            self.assert_told(share(book, cord, 0, 1, 3), share, book, cord, 0, 1, 3)
            self.assert_told(free_share(book, cord, 0, 3), free_share, book, cord, 0, 3)


class Refusals(AskCase):
    def test_no_base(self):
        for base in NO_BASES:
            for book, cord in ((NESTING, "aabb"), (LEAST_BOOK, "ab"), (ALIKE, "aa")):
                self.assert_refused(NoBase, share, book, cord, 0, 1, base)
                self.assert_refused(NoBase, free_share, book, cord, 0, base)
            for book, cord in ((NESTING, "aabb"), (LEAST_BOOK, "")):
                self.assert_refused(NoBase, all_shares, book, cord, base)
                self.assert_refused(NoBase, are_shares, book, cord, base, [])
                self.assert_refused(NoBase, are_shares, book, cord, base, [(0, 3, (1, 3))])

    def test_no_spot(self):
        wrong = (-1, -2, -4, 4, 5, 100, HUGE, -HUGE, 10 * HUGE - 1, 1 - 10 * HUGE)
        for base in (1, 9):
            for i in wrong:
                self.assert_refused(NoSpot, free_share, NESTING, "aabb", i, base)
                for j in (0, 1, 3) + wrong:
                    self.assert_refused(NoSpot, share, NESTING, "aabb", i, j, base)
                    self.assert_refused(NoSpot, share, NESTING, "aabb", j, i, base)

    def test_spots_that_do_not_rise(self):
        for i in range(4):
            for j in range(i + 1):
                self.assert_refused(NoSpot, share, NESTING, "aabb", i, j, 2)

    def test_the_last_spots_are_spots(self):
        self.assert_told((0, 1), share, NESTING, "aabb", 2, 3, 2)
        self.assert_told((5, 41), free_share, NESTING, "aabb", 3, 2)

    def test_both_wrong(self):
        for base in NO_BASES:
            for i, j in ((-1, 2), (1, 1), (3, 1), (0, 4), (HUGE, HUGE), (-HUGE, HUGE)):
                self.assert_refused(NoBase, share, NESTING, "aabb", i, j, base)
            for i in (-1, 4, HUGE, -HUGE):
                self.assert_refused(NoBase, free_share, NESTING, "aabb", i, base)

    def test_a_cord_without_letters(self):
        for book in (LEAST_BOOK, BOOK):
            for i, j in ((0, 0), (0, 1), (-1, 0)):
                self.assert_refused(NoSpot, share, book, "", i, j, 1)
                self.assert_refused(NoSpot, free_share, book, "", i, 1)
                self.assert_refused(NoBase, share, book, "", i, j, 0)
                self.assert_refused(NoBase, free_share, book, "", i, 10)

    def test_behind_a_refusal_a_share_is_told_as_before(self):
        for i, j, base in ((0, 3, 0), (0, 4, 1), (3, 0, 2), (-1, 3, 2)):
            with self.assertRaises((NoBase, NoSpot)):
                share(NESTING, "aabb", i, j, base)
            self.assert_told((34, 41), share, NESTING, "aabb", 0, 3, 2)


class AllShares(AskCase):
    def test_a_cord_by_hand(self):
        told = [(0, 2, (2, 41)), (0, 3, (34, 41)), (1, 2, (33, 41)), (1, 3, (2, 41))]
        self.assert_told(told, all_shares, NESTING, "aabb", 2)
        self.assert_told(True, are_shares, NESTING, "aabb", 2, told)

    def test_none(self):
        for book, cord in ((LEAST_BOOK, ""), (LEAST_BOOK, "ab"), (BOOK, ""), (BOOK, "ab")):
            for base in range(1, 10):
                self.assert_told([], all_shares, book, cord, base)
                self.assert_told(True, are_shares, book, cord, base, [])
                self.assert_told(False, are_shares, book, cord, base, [(0, 1, (1, 2))])

    def test_rising_and_those_above_nought_alone(self):
        for book, cord in ASKED:
            for base in (1, 2, 9):
                told = [(i, j, share(book, cord, i, j, base)) for i, j in itertools.combinations(range(len(cord)), 2)]
                told = [row for row in told if row[2][0] > 0]
                self.assertEqual([row[:2] for row in told], all_pairs(book, cord))
                self.assert_told(told, all_shares, book, cord, base)

    def test_at_each_spot_all_comes_to_one(self):
        for book, cord in ASKED:
            for base in range(1, 10):
                shares = all_shares(book, cord, base)
                for spot in range(len(cord)):
                    whole = free_share(book, cord, spot, base)
                    for i, j, part in shares:
                        if spot in (i, j):
                            whole = plus(whole, part)
                    self.assertEqual(whole, (1, 1), (book, cord, spot, base))

    def test_twenty_letters_are_told_soon(self):
        begun = time.monotonic()
        for base in (1, 2, 9):
            for book in (ALIKE, FORKING):
                shares = all_shares(book, "a" * 20, base)
                self.assertEqual([row[:2] for row in shares], list(itertools.combinations(range(20), 2)))
                whole = sum(Fraction(*part) for i, j, part in shares if 7 in (i, j))
                left = 1 - whole
                told = (left.numerator, left.denominator)
                self.assertEqual(free_share(book, "a" * 20, 7, base), told)
                self.assertIs(are_shares(book, "a" * 20, base, shares), True)
        self.assertEqual(share(ALIKE, "a" * 20, 0, 19, 1), reduced(6536382, 50852019))
        self.assertLess(time.monotonic() - begun, 20)


class AreShares(AskCase):
    def assert_none(self, told):
        """The list is not that of all shares; it is the same behind the question."""
        self.assert_told(False, are_shares, NESTING, "aabb", 2, told)

    def setUp(self):
        self.rows = all_shares(NESTING, "aabb", 2)
        self.assertEqual(len(self.rows), 4)

    def test_true_of_the_told_list(self):
        for book, cord in ASKED:
            for base in (1, 2, 9):
                rows = all_shares(book, cord, base)
                self.assert_told(True, are_shares, book, cord, base, rows)
                self.assert_told(True, are_shares, book, cord, base, copy.deepcopy(rows))

    def test_one_row_left_out(self):
        for at in range(4):
            self.assert_none(self.rows[:at] + self.rows[at + 1:])
        self.assert_none([])

    def test_one_row_told_twice(self):
        for at in range(4):
            self.assert_none(self.rows[:at + 1] + self.rows[at:])
            self.assert_none(self.rows + [self.rows[at]])

    def test_two_rows_exchanged(self):
        for one, other in itertools.combinations(range(4), 2):
            rows = list(self.rows)
            rows[one], rows[other] = rows[other], rows[one]
            self.assert_none(rows)

    def test_a_share_of_nought_put_in(self):
        self.assert_none([(0, 1, (0, 1))] + self.rows)
        self.assert_none(self.rows + [(2, 3, (0, 1))])

    def test_a_share_made_other(self):
        for at, (i, j, part) in enumerate(self.rows):
            for other in ((0, 1), (1, 1), (part[0] + 1, part[1]), (-part[0], part[1]), (1, HUGE), (HUGE, 1)):
                self.assert_none(self.rows[:at] + [(i, j, other)] + self.rows[at + 1:])

    def test_a_spot_moved(self):
        for at, (i, j, part) in enumerate(self.rows):
            for k, m in ((0, 1), (i, j + 1), (i + 1, j + 1), (2, 3), (i, HUGE)):
                if (k, m) != (i, j):
                    self.assert_none(self.rows[:at] + [(k, m, part)] + self.rows[at + 1:])

    def test_a_row_of_spots_that_the_cord_has_not(self):
        for i, j in ((0, 4), (3, 4), (4, 5), (HUGE, HUGE + 1), (0, HUGE)):
            for part in ((0, 1), (1, 2)):
                self.assert_none(self.rows + [(i, j, part)])
                self.assert_none([(i, j, part)] + self.rows)

    def test_those_of_another_base_book_or_cord(self):
        self.assert_none(all_shares(NESTING, "aabb", 1))
        self.assert_none(all_shares(NESTING, "aabb", 3))
        self.assert_none(all_shares(book_of(0, "ab"), "aabb", 2))
        self.assert_none(all_shares(NESTING, "aab", 2))


if __name__ == "__main__":
    unittest.main()
