"""Full shapes: what is one, how many there are, and the one of a number [2, 18, 19]."""

import itertools
import time
import unittest

from asking import AskCase
from hoopcord.errors import NoNumber
from hoopcord.full import full_at, how_many_full, is_full
from listing import FELLOWS, bare_shapes, full_by_hand, full_shapes, in_a_row, nested, row_by_hand
from samples import HUGE, LETTERS, NO_TUPLES, NO_WHOLE_NUMBERS, with_part

# Full shapes of even numbers of spots; side by side, nested, and both.
FULL = (
    (0, ()),
    (2, ((0, 1),)),
    (4, ((0, 1), (2, 3))),
    (4, ((0, 3), (1, 2))),
    (6, ((0, 5), (1, 2), (3, 4))),
    (8, ((0, 3), (1, 2), (4, 7), (5, 6))),
    (40, nested(40)),
    (40, in_a_row(40)),
    (40, ((0, 39),) + tuple((i + 1, j + 1) for i, j in in_a_row(38))),
    (40, ((0, 1),) + tuple((i + 2, j + 2) for i, j in nested(38))),
)


class Listing(unittest.TestCase):
    def test_the_full_shapes_are_those_bare_ones_that_leave_no_spot(self):
        for many in range(0, 9, 2):
            bare = [shape for shape in bare_shapes(many) if 2 * len(shape) == many]
            self.assertEqual(full_shapes(many), sorted(bare, key=lambda shape: row_by_hand(many, shape)))

    def test_the_fellows_are_neighbours_of_the_alphabet(self):
        self.assertEqual(len(FELLOWS), 26)
        for x, y in itertools.product(LETTERS, repeat=2):
            places = (LETTERS.index(x), LETTERS.index(y))
            self.assertEqual(x + y in FELLOWS, places[0] // 2 == places[1] // 2 and x != y)


class IsFull(AskCase):
    def assert_none(self, many, thing):
        self.assert_told(False, is_full, many, thing)

    def test_full_shapes(self):
        for many, shape in FULL:
            self.assert_told(True, is_full, many, shape)

    def test_all_full_shapes_of_few_spots(self):
        for many in range(0, 9, 2):
            for shape in bare_shapes(many):
                self.assert_told(2 * len(shape) == many, is_full, many, shape)

    def test_another_number_of_spots(self):
        for many, shape in FULL:
            for other in (0, 2, 4, 6, 8, 38, 40, 42):
                if other != many:
                    self.assert_none(other, shape)

    def test_spots_left_out(self):
        for many, shape in FULL:
            for at in range(len(shape)):
                self.assert_none(many, shape[:at] + shape[at + 1:])
        self.assert_none(4, ((0, 1),))
        self.assert_none(4, ((1, 2),))
        self.assert_none(2, ())

    def test_a_hoop_told_twice(self):
        for many, shape in FULL:
            for at in range(len(shape)):
                self.assert_none(many, shape[:at + 1] + shape[at:])
                self.assert_none(many + 2, shape[:at + 1] + shape[at:])
        self.assert_none(4, ((0, 1), (0, 1)))
        self.assert_none(4, ((0, 3), (0, 3)))

    def test_a_spot_in_two_hoops(self):
        self.assert_none(4, ((0, 1), (1, 3)))
        self.assert_none(4, ((0, 3), (1, 3)))
        self.assert_none(4, ((0, 1), (0, 3)))
        self.assert_none(4, ((0, 2), (2, 3)))

    def test_ends_exchanged(self):
        for many, shape in FULL:
            for at, (i, j) in enumerate(shape):
                self.assert_none(many, with_part(shape, at, (j, i)))
        self.assert_none(2, ((1, 0),))

    def test_one_spot_as_both_ends(self):
        self.assert_none(2, ((0, 0),))
        self.assert_none(2, ((1, 1),))
        self.assert_none(4, ((0, 3), (1, 1)))

    def test_two_that_cross(self):
        self.assert_none(4, ((0, 2), (1, 3)))
        self.assert_none(6, ((0, 1), (2, 4), (3, 5)))
        self.assert_none(6, ((0, 3), (1, 4), (2, 5)))
        self.assert_none(8, ((0, 7), (1, 3), (2, 4), (5, 6)))
        self.assert_none(40, tuple((spot, spot + 20) for spot in range(20)))

    def test_out_of_order(self):
        for many, shape in FULL:
            for at in range(len(shape) - 1):
                self.assert_none(many, shape[:at] + (shape[at + 1], shape[at]) + shape[at + 2:])
            if len(shape) > 1:
                self.assert_none(many, shape[::-1])

    def test_a_list_for_the_tuple_or_for_a_pair(self):
        for many, shape in FULL:
            self.assert_none(many, list(shape))
            for at, pair in enumerate(shape):
                self.assert_none(many, with_part(shape, at, list(pair)))

    def test_other_things_for_a_pair(self):
        for many, shape in FULL[1:6]:
            for at, (i, j) in enumerate(shape):
                for thing in NO_WHOLE_NUMBERS + (0, 1, HUGE, "01", "()", (i,), (j,), (i, j, j), (i, j, 0), ((i, j),)):
                    if thing != (i, j):
                        self.assert_none(many, with_part(shape, at, thing))

    def test_other_things_for_a_number(self):
        for many, shape in FULL[1:6]:
            for at, pair in enumerate(shape):
                for place in range(2):
                    for thing in NO_WHOLE_NUMBERS + (str(pair[place]), (pair[place],), [pair[place]]):
                        self.assert_none(many, with_part(shape, at, with_part(pair, place, thing)))
        self.assert_none(2, ((0, True),))
        self.assert_none(2, ((False, 1),))
        self.assert_none(2, ((False, True),))

    def test_numbers_below_nought_and_beyond_the_spots(self):
        self.assert_none(2, ((-1, 0),))
        self.assert_none(2, ((-2, -1),))
        self.assert_none(2, ((1, 2),))
        self.assert_none(2, ((0, 2),))
        self.assert_none(2, ((2, 3),))
        self.assert_none(4, ((-1, 2), (0, 1)))
        self.assert_none(40, with_part(nested(40), 0, (0, 40)))
        for many, shape in FULL[1:6]:
            for at, (i, j) in enumerate(shape):
                for far in (-1, -HUGE, many, many + 1, HUGE, 10 * HUGE - 1):
                    self.assert_none(many, with_part(shape, at, (far, j)))
                    self.assert_none(many, with_part(shape, at, (i, far)))

    def test_no_tuples_at_all(self):
        for many in (0, 2, 4, 40):
            for thing in NO_TUPLES + ([(0, 1)], [[0, 1]], "()", "(())"):
                self.assert_none(many, thing)


class HowManyFull(AskCase):
    def test_no_letters(self):
        self.assert_told(1, how_many_full, "")

    def test_by_hand(self):
        for cord, told in (
            ("ab", 1), ("ba", 1), ("aa", 0), ("bb", 0), ("ac", 0), ("bc", 0), ("cd", 1), ("zy", 1), ("xy", 0), ("az", 0),
            ("abab", 2), ("aabb", 1), ("abba", 1), ("abcd", 1), ("acdb", 1), ("acbd", 0), ("ababab", 5), ("bababa", 5),
            ("abcdba", 1), ("aabbab", 2), ("aababb", 2), ("abcdab", 2), ("ababcd", 2), ("abcdef", 1),
        ):
            self.assert_told(told, how_many_full, cord)

    def test_two_letters(self):
        for x, y in itertools.product(LETTERS, repeat=2):
            self.assert_told(1 if x + y in FELLOWS else 0, how_many_full, x + y)

    def test_an_odd_number_of_letters(self):
        for cord in ("a", "aba", "abb", "ababa", "cdcdcdc", "ab" * 19 + "a"):
            self.assert_told(0, how_many_full, cord)

    def test_letters_without_fellows(self):
        for cord in ("acegikmoqsuw", "a" * 40, "bcbcbcbc", "acacacac", "abc" * 4 + "ef"):
            self.assert_told(0, how_many_full, cord)

    def test_forty_letters_are_told_soon(self):
        begun = time.monotonic()
        for cord, told in (
            ("ab" * 20, 6564120420), ("ba" * 20, 6564120420), ("a" * 20 + "b" * 20, 1), ("yz" * 20, 6564120420),
            ("abcd" * 10, 1430715), ("ab" * 10 + "cd" * 10, 16796 * 16796),
        ):
            self.assert_told(told, how_many_full, cord)
        self.assertLess(time.monotonic() - begun, 20)


class FullAt(AskCase):
    def assert_numbers(self, cord, shapes):
        self.assert_told(len(shapes), how_many_full, cord)
        for number, shape in enumerate(shapes):
            self.assert_told(shape, full_at, cord, number)
        for number in (-1, len(shapes), len(shapes) + 1, -len(shapes) - 1):
            self.assert_refused(NoNumber, full_at, cord, number)

    def test_no_letters(self):
        self.assert_numbers("", [()])

    def test_none(self):
        for cord in ("a", "aa", "aba", "ac", "acbd", "a" * 40):
            self.assert_numbers(cord, [])
            self.assert_refused(NoNumber, full_at, cord, 0)

    def test_by_hand(self):
        self.assert_numbers("ab", [((0, 1),)])
        self.assert_numbers("abab", [((0, 1), (2, 3)), ((0, 3), (1, 2))])
        self.assert_numbers("ababab", [
            ((0, 1), (2, 3), (4, 5)), ((0, 1), (2, 5), (3, 4)), ((0, 3), (1, 2), (4, 5)),
            ((0, 5), (1, 2), (3, 4)), ((0, 5), (1, 4), (2, 3)),
        ])

    def test_all_small_cords(self):
        for many in range(7):
            for letters in itertools.product("abc" if many > 4 else "abcd", repeat=many):
                cord = "".join(letters)
                self.assert_numbers(cord, full_by_hand(cord))

    def test_some_longer_cords(self):
        for cord in ("abababab", "aabbaabb", "abcdabcd", "cddcabba", "ababcdabab", "abcdcdab", "efabababfe", "ab" * 5):
            self.assert_numbers(cord, full_by_hand(cord))

    def test_forty_letters_are_told_soon(self):
        begun = time.monotonic()
        cord = "ab" * 20
        self.assert_told(in_a_row(40), full_at, cord, 0)
        self.assert_told(nested(40), full_at, cord, 6564120419)
        rows = []
        for number in (0, 1, 2, 1000, 123456789, 3282060210, 3282060211, 6564120418, 6564120419):
            shape = full_at(cord, number)
            self.assertIs(is_full(40, shape), True)
            rows.append(row_by_hand(40, shape))
        self.assertEqual(rows, sorted(rows))
        self.assertEqual(len({tuple(row) for row in rows}), len(rows))
        self.assert_told(nested(40), full_at, "a" * 20 + "b" * 20, 0)
        self.assertLess(time.monotonic() - begun, 20)

    def test_another_number_is_refused(self):
        for cord, count in (("", 1), ("ab", 1), ("aa", 0), ("ababab", 5), ("ab" * 20, 6564120420)):
            for number in (-1, -2, count, count + 1, 10 ** 14, HUGE, 10 * HUGE - 1, -10 ** 14, -HUGE, 1 - 10 * HUGE):
                self.assert_refused(NoNumber, full_at, cord, number)
            if count:
                self.assert_told(in_a_row(len(cord)), full_at, cord, 0)


if __name__ == "__main__":
    unittest.main()
