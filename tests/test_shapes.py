"""Shapes: what is one, and its row [2, 6, 7, 10]."""

import copy
import itertools
import unittest

from hoopcord.shapes import is_shape, row_of
from listing import all_shapes, bare_shapes, book_of, hoopable, in_a_row, nested, row_by_hand
from samples import BOOK, GREATEST_BOOK, HUGE, LEAST_BOOK, NO_TUPLES, NO_WHOLE_NUMBERS, kinds_alike, with_part

ALIKE = book_of(0, "aa")


class IsShape(unittest.TestCase):
    def assert_shape(self, book, cord, thing, told):
        with self.subTest(book=book, cord=cord, thing=thing):
            kept = copy.deepcopy((book, cord, thing))
            self.assertIs(is_shape(book, cord, thing), told)
            self.assertIs(is_shape(book, cord, thing), told)
            self.assertTrue(kinds_alike((book, cord, thing), kept))

    def assert_alike(self, thing, told):
        """Ask of eight letters of which each two may be hooped."""
        self.assert_shape(ALIKE, "aaaaaaaa", thing, told)

    def test_the_shape_without_hoops(self):
        for book in (LEAST_BOOK, BOOK, GREATEST_BOOK, ALIKE):
            for cord in ("", "a", "ab", "aaaaaaaa", "z" * 20):
                self.assert_shape(book, cord, (), True)

    def test_one_hoop(self):
        for i, j in itertools.combinations(range(8), 2):
            self.assert_alike(((i, j),), True)

    def test_side_by_side_and_within_one_another(self):
        for shape in (
            ((0, 1), (2, 3)), ((0, 3), (1, 2)), ((0, 7), (1, 2), (3, 6), (4, 5)), ((0, 1), (3, 7), (4, 5)),
            ((0, 1), (2, 3), (4, 5), (6, 7)), ((0, 7), (1, 6), (2, 5), (3, 4)), ((0, 5), (1, 2), (6, 7)),
        ):
            self.assert_alike(shape, True)

    def test_ten_hoops_of_twenty_letters(self):
        for shape in (nested(20), in_a_row(20)):
            self.assertEqual(len(shape), 10)
            self.assert_shape(ALIKE, "a" * 20, shape, True)
            self.assert_shape(ALIKE, "a" * 19, shape, False)

    def test_another_kind_for_the_tuple(self):
        for thing in NO_TUPLES:
            self.assert_alike(thing, False)
        for shape in ((), ((0, 1),), ((0, 3), (1, 2))):
            self.assert_alike(list(shape), False)
            self.assert_shape(LEAST_BOOK, "", list(shape), False)

    def test_another_kind_for_a_pair(self):
        for thing in NO_TUPLES + ([0, 1], [2, 3], "01", 0, None, (), ((0, 1),)):
            self.assert_alike((thing,), False)
            self.assert_alike(((0, 1), thing), False)
            self.assert_alike((thing, (6, 7)), False)
            self.assert_alike(((0, 1), thing, (6, 7)), False)

    def test_a_pair_of_one_or_three(self):
        for thing in ((), (2,), (2, 3, 4), (2, 3, 3), (2, 3, None), (2, 3, 4, 5)):
            self.assert_alike((thing,), False)
            self.assert_alike(((0, 1), thing), False)
            self.assert_alike((thing, (6, 7)), False)

    def test_one_pair_for_a_tuple_of_pairs(self):
        for thing in ((0, 1), (2, 3), ((0, 1), 2), (((0, 1),),), (((0, 1), (2, 3)),)):
            self.assert_alike(thing, False)

    def test_no_whole_number_for_a_spot(self):
        for thing in NO_WHOLE_NUMBERS + ("a", "aa", 8 * "a"):
            for pair in ((thing, 5), (2, thing), (thing, thing)):
                self.assert_alike((pair,), False)
                self.assert_alike(((0, 1), pair), False)
                self.assert_alike((pair, (6, 7)), False)

    def test_truths_are_no_spots(self):
        for pair in ((False, 1), (0, True), (False, True), (True, 2), (True, 7), (False, 7)):
            self.assert_alike((pair,), False)
            self.assert_alike(((int(pair[0]), int(pair[1])),), True)

    def test_numbers_that_are_no_spots(self):
        for number in (-HUGE, -9, -8, -7, -1, 8, 9, 20, 100, HUGE):
            for pair in ((number, 5), (2, number), (number, number), (-HUGE, number), (number, HUGE)):
                self.assert_alike((pair,), False)
                self.assert_alike(((3, 4), pair), False)
                self.assert_alike((pair, (6, 7)), False)

    def test_just_beyond_the_cords_end(self):
        for many in range(1, 21):
            self.assert_shape(ALIKE, "a" * many, ((0, many),), False)
            self.assert_shape(ALIKE, "a" * (many + 1), ((0, many),), True)
            self.assert_shape(ALIKE, "a" * many, ((-1, many - 1),), False)

    def test_equal_and_falling_spots(self):
        for i in range(8):
            for j in range(i + 1):
                self.assert_alike(((i, j),), False)
        self.assert_alike(((0, 1), (4, 4)), False)
        self.assert_alike(((0, 1), (5, 4)), False)

    def test_pairs_out_of_order(self):
        for shape in (((0, 1), (2, 3)), ((0, 3), (1, 2)), ((0, 7), (1, 2), (3, 6), (4, 5))):
            self.assert_alike(shape, True)
            for order in itertools.permutations(shape):
                self.assert_alike(order, order == shape)

    def test_a_pair_told_twice(self):
        for pair in ((0, 1), (0, 7), (3, 5)):
            self.assert_alike((pair, pair), False)
        self.assert_alike(((0, 1), (2, 3), (2, 3)), False)
        self.assert_alike(((0, 1), (2, 3), (0, 1)), False)

    def test_a_spot_in_two_pairs(self):
        for pairs in (
            ((0, 1), (0, 2)), ((0, 2), (0, 1)), ((0, 2), (1, 2)), ((0, 1), (1, 2)), ((0, 7), (3, 7)),
            ((0, 3), (3, 7)), ((0, 7), (1, 3), (3, 5)), ((0, 3), (1, 2), (3, 7)), ((0, 7), (1, 2), (5, 7)),
        ):
            self.assert_alike(pairs, False)

    def test_pairs_that_cross(self):
        for i, k, j, m in itertools.combinations(range(8), 4):
            self.assert_alike(((i, j), (k, m)), False)
            self.assert_alike(((k, m), (i, j)), False)
        self.assert_alike(((0, 4), (1, 2), (3, 7)), False)
        self.assert_alike(((0, 7), (1, 3), (2, 4)), False)
        self.assert_alike(((0, 2), (1, 7), (3, 4)), False)

    def test_too_few_spots_between(self):
        for gap in range(7):
            book = book_of(gap, "aa")
            for between in range(10):
                self.assert_shape(book, "a" * 12, ((1, between + 2),), between >= gap)
                self.assert_shape(book, "a" * 12, ((0, 11), (1, between + 2)), between + 2 < 11 and between >= gap)

    def test_the_gap_counts_spots_and_not_free_ones(self):
        self.assert_shape(book_of(2, "aa", "bb"), "abccba", ((0, 5), (1, 4)), True)
        self.assert_shape(book_of(3, "aa", "bb"), "abccba", ((0, 5), (1, 4)), False)

    def test_letters_without_a_hoop(self):
        self.assert_shape(book_of(0, "ab"), "ab", ((0, 1),), True)
        self.assert_shape(book_of(0, "ab"), "ba", ((0, 1),), False)
        for cord in ("aa", "bb", "ac", "cb"):
            self.assert_shape(book_of(0, "ab"), cord, ((0, 1),), False)
        self.assert_shape(book_of(0, "ab"), "abab", ((0, 1), (2, 3)), True)
        self.assert_shape(book_of(0, "ab"), "abba", ((0, 1), (2, 3)), False)
        self.assert_shape(LEAST_BOOK, "ab", ((0, 1),), False)

    def test_a_hoop_of_price_nought(self):
        self.assert_shape(BOOK, "cxd", ((0, 2),), True)

    def test_a_cord_without_letters(self):
        for thing in (((0, 1),), ((0, 0),), ((-1, 0),), ((-2, -1),), (0,), ((),)):
            self.assert_shape(ALIKE, "", thing, False)

    def test_every_set_of_three_pairs_of_a_small_cord(self):
        book, cord = with_part(BOOK, 0, 0), "abeabe"
        shapes = set(all_shapes(book, cord))
        pairs = list(itertools.product(range(-1, 7), repeat=2))
        self.assertGreater(len(shapes), 5)
        self.assertTrue({len(shape) for shape in shapes} >= {0, 1, 2})
        for many in range(3):
            for thing in itertools.product(pairs, repeat=many):
                self.assertIs(is_shape(book, cord, thing), thing in shapes, thing)
        for thing in itertools.product(hoopable(book, cord), repeat=3):
            self.assertIs(is_shape(book, cord, thing), thing in shapes, thing)

    def test_a_pair_far_from_the_one_that_it_crosses(self):
        self.assert_shape(ALIKE, "a" * 12, ((0, 9), (1, 2), (3, 4), (5, 6), (8, 11)), False)
        self.assert_shape(ALIKE, "a" * 12, ((0, 9), (1, 2), (3, 4), (5, 6), (10, 11)), True)

    def test_deep_things_and_lists_within(self):
        for thing in (((((((),),),),),), ((0, [1]),), (([0], 1),), ([(0, 1)],), ((0, 1), [2, 3]), (([], []),)):
            self.assert_alike(thing, False)


class RowOf(unittest.TestCase):
    def assert_row(self, many, shape, told):
        with self.subTest(many=many, shape=shape):
            kept = copy.deepcopy(shape)
            for asked in range(2):
                row = row_of(many, shape)
                self.assertTrue(kinds_alike(row, told), row)
            self.assertTrue(kinds_alike(shape, kept))

    def test_no_spots(self):
        self.assert_row(0, (), [])

    def test_no_hoops(self):
        for many in (1, 2, 7, 20, 40):
            self.assert_row(many, (), [-1] * many)

    def test_hoops(self):
        self.assert_row(2, ((0, 1),), [1, 0])
        self.assert_row(5, ((1, 3),), [-1, 3, -1, 1, -1])
        self.assert_row(6, ((0, 5), (1, 2), (3, 4)), [5, 2, 1, 4, 3, 0])
        self.assert_row(7, ((0, 2), (3, 6)), [2, -1, 0, 6, -1, -1, 3])

    def test_forty_spots(self):
        self.assert_row(40, nested(40), list(range(39, -1, -1)))
        self.assert_row(40, in_a_row(40), [spot + 1 - spot % 2 * 2 for spot in range(40)])
        self.assert_row(40, ((0, 39),), [39] + [-1] * 38 + [0])

    def test_all_small_shapes(self):
        for many in range(8):
            for shape in bare_shapes(many):
                self.assert_row(many, shape, row_by_hand(many, shape))

    def test_every_list_is_new_and_the_askers_own(self):
        for many, shape in ((0, ()), (3, ()), (4, ((0, 3), (1, 2))), (40, nested(40))):
            first = row_of(many, shape)
            second = row_of(many, shape)
            self.assertIsNot(first, second)
            kept = list(first)
            first.append(7)
            first.reverse()
            self.assertEqual(second, kept)
            second.clear()
            self.assert_row(many, shape, kept)


if __name__ == "__main__":
    unittest.main()
