"""Other full shapes of a cord than a told one [2, 3, 21]."""

import copy
import itertools
import time
import unittest

from hoopcord.full import full_at, how_many_full, is_full
from hoopcord.making import made_for
from hoopcord.others import other_full
from listing import FELLOWS, full_by_hand, full_shapes, in_a_row, nested
from samples import LETTERS, kinds_alike


def cords_that_fit(many, shape, c):
    """Tell all cords of the first c sorts of which the full shape is one."""
    for firsts in itertools.product(LETTERS[:2 * c], repeat=len(shape)):
        letters = [""] * many
        for (i, j), first in zip(shape, firsts):
            letters[i] = first
            letters[j] = next(second for second in LETTERS if first + second in FELLOWS)
        yield "".join(letters)


class OtherFull(unittest.TestCase):
    def assert_other(self, cord, shape, count):
        """None just where there is one alone; else a full shape of the cord that is another one."""
        with self.subTest(cord=cord, shape=shape):
            kept = copy.deepcopy(shape)
            for asked in range(2):
                told = other_full(cord, shape)
                if count == 1:
                    self.assertIsNone(told)
                    continue
                self.assertIs(is_full(len(cord), told), True, told)
                self.assertTrue(all(cord[i] + cord[j] in FELLOWS for i, j in told), told)
                self.assertNotEqual(told, shape)
            self.assertTrue(kinds_alike(shape, kept))

    def test_by_hand(self):
        for cord, shape, told in (
            ("", (), None),
            ("ab", ((0, 1),), None),
            ("aabb", ((0, 3), (1, 2)), None),
            ("abba", ((0, 1), (2, 3)), None),
            ("abab", ((0, 1), (2, 3)), ((0, 3), (1, 2))),
            ("abab", ((0, 3), (1, 2)), ((0, 1), (2, 3))),
            ("abcdab", ((0, 1), (2, 3), (4, 5)), ((0, 5), (1, 4), (2, 3))),
            ("abcdab", ((0, 5), (1, 4), (2, 3)), ((0, 1), (2, 3), (4, 5))),
            ("cababd", ((0, 5), (1, 2), (3, 4)), ((0, 5), (1, 4), (2, 3))),
        ):
            self.assertTrue(kinds_alike(other_full(cord, shape), told), (cord, shape))

    def test_all_small_cords(self):
        for many in range(0, 7, 2):
            for letters in itertools.product("abcd", repeat=many):
                cord = "".join(letters)
                shapes = full_by_hand(cord)
                for shape in shapes:
                    self.assert_other(cord, shape, len(shapes))

    def test_all_cords_of_eight_letters_of_one_sort(self):
        for letters in itertools.product("ab", repeat=8):
            cord = "".join(letters)
            shapes = full_by_hand(cord)
            for shape in shapes:
                self.assert_other(cord, shape, len(shapes))

    def test_cords_of_two_sorts_that_fit_shapes_of_eight_spots(self):
        for shape in full_shapes(8):
            for cord in cords_that_fit(8, shape, 2):
                self.assert_other(cord, shape, how_many_full(cord))

    def test_never_none_where_a_ring_is_wide(self):
        wide = 0
        for many, c in ((2, 0), (6, 1), (8, 1), (10, 1), (10, 2)):
            for shape in full_shapes(many):
                if made_for(many, shape, c)[0] == "wide":
                    for cord in cords_that_fit(many, shape, c):
                        wide += 1
                        self.assert_other(cord, shape, 2)
        self.assertGreater(wide, 1000)

    def test_none_of_a_cord_that_is_made(self):
        for many in range(0, 11, 2):
            for shape in full_shapes(many):
                for c in range(1, 6):
                    kind, cord = made_for(many, shape, c)
                    if kind == "cord":
                        self.assertIsNone(other_full(cord, shape))

    def test_forty_letters_are_told_soon(self):
        begun = time.monotonic()
        for cord in ("ab" * 20, "ba" * 20, "abcd" * 10, "ab" * 10 + "cd" * 10, "a" * 20 + "b" * 20, "abba" * 10):
            count = how_many_full(cord)
            for number in {0, count // 3, count // 2, count - 1}:
                self.assert_other(cord, full_at(cord, number), count)
        for shape in (in_a_row(40), nested(40)):
            self.assert_other(made_for(40, shape, 10)[1], shape, 1)
            self.assert_other("ab" * 20, shape, 6564120420)
        self.assertLess(time.monotonic() - begun, 20)


if __name__ == "__main__":
    unittest.main()
