"""Cords made for full shapes: the breadth of rings, what is made, whether a shape is alone [2, 3, 20]."""

import itertools
import time
import unittest

from asking import AskCase
from hoopcord.full import full_at, how_many_full
from hoopcord.making import alone, breadth, made_for
from listing import full_by_hand, full_shapes, in_a_row, nested, ring_by_hand
from samples import LETTERS

# (()()), (())() and their like: the hoops of a row within one hoop, and hoops in each of which lie two.
HUGGED = ((0, 39),) + tuple((i + 1, j + 1) for i, j in in_a_row(38))
TWO_IN_EACH = tuple(sorted((i + 6 * k, j + 6 * k) for k in range(6) for i, j in ((0, 5), (1, 2), (3, 4))))


def breadth_by_hand(many, shape, hoop):
    """Tell the breadth of a ring as the document tells it."""
    return len(ring_by_hand(many, shape, hoop)[0]) + (hoop is not None)


def widest(many, shape):
    """Tell the greatest breadth of a ring."""
    return max(breadth_by_hand(many, shape, hoop) for hoop in (None,) + shape)


class Breadth(AskCase):
    def test_by_hand(self):
        shape = ((0, 9), (1, 4), (2, 3), (5, 6), (7, 8), (10, 11))
        for hoop, told in ((None, 2), ((0, 9), 4), ((1, 4), 2), ((2, 3), 1), ((5, 6), 1), ((7, 8), 1), ((10, 11), 1)):
            self.assert_told(told, breadth, 12, shape, hoop)
        self.assert_told(0, breadth, 0, (), None)
        self.assert_told(1, breadth, 2, ((0, 1),), None)
        self.assert_told(1, breadth, 2, ((0, 1),), (0, 1))

    def test_forty_spots(self):
        self.assert_told(20, breadth, 40, in_a_row(40), None)
        self.assert_told(1, breadth, 40, in_a_row(40), (38, 39))
        self.assert_told(1, breadth, 40, nested(40), None)
        self.assert_told(2, breadth, 40, nested(40), (0, 39))
        self.assert_told(1, breadth, 40, nested(40), (19, 20))
        self.assert_told(20, breadth, 40, HUGGED, (0, 39))
        self.assert_told(1, breadth, 40, HUGGED, None)

    def test_all_rings_of_few_spots(self):
        for many in range(0, 11, 2):
            for shape in full_shapes(many):
                for hoop in (None,) + shape:
                    self.assert_told(breadth_by_hand(many, shape, hoop), breadth, many, shape, hoop)


class MadeFor(AskCase):
    def assert_made(self, many, shape, c):
        """A cord, where no ring is wide, that has the shape alone; else a hoop whose ring is wide."""
        with self.subTest(many=many, shape=shape, c=c):
            told = made_for(many, shape, c)
            self.assertIs(type(told), tuple)
            self.assertEqual(len(told), 2)
            if widest(many, shape) > 2 * c:
                self.assertEqual(told[0], "wide")
                self.assertTrue(told[1] is None or type(told[1]) is tuple and told[1] in shape, told)
                self.assertGreater(breadth_by_hand(many, shape, told[1]), 2 * c)
                return
            self.assertEqual(told[0], "cord")
            self.assertIs(type(told[1]), str)
            self.assertEqual(len(told[1]), many)
            self.assertLessEqual(set(told[1]), set(LETTERS[:2 * c]))
            self.assertEqual(how_many_full(told[1]), 1)
            self.assertEqual(full_at(told[1], 0), shape)
            self.assertIs(alone(told[1], shape), True)

    def test_no_spots(self):
        for c in range(14):
            self.assert_told(("cord", ""), made_for, 0, (), c)

    def test_no_sorts(self):
        self.assert_told(("wide", None), made_for, 2, ((0, 1),), 0)
        for many in (2, 4, 6, 8):
            for shape in full_shapes(many):
                self.assert_made(many, shape, 0)

    def test_all_full_shapes_of_few_spots(self):
        for many in range(0, 13, 2):
            for shape in full_shapes(many):
                for c in range(8 if many < 10 else 5):
                    self.assert_made(many, shape, c)

    def test_the_cords_have_no_other_full_shape_by_hand(self):
        for many in range(0, 9, 2):
            for shape in full_shapes(many):
                for c in range(1, 5):
                    kind, made = made_for(many, shape, c)
                    if kind == "cord":
                        self.assertEqual(full_by_hand(made), [shape])

    def test_just_enough_sorts_and_one_less(self):
        for many in range(2, 13, 2):
            for shape in full_shapes(many):
                enough = (widest(many, shape) + 1) // 2
                self.assertEqual(made_for(many, shape, enough)[0], "cord")
                self.assertEqual(made_for(many, shape, enough - 1)[0], "wide")

    def test_a_ring_as_broad_as_can_be_and_one_more(self):
        for c in range(1, 10):
            for hoops, kind in ((2 * c, "cord"), (2 * c + 1, "wide")):
                self.assertEqual(made_for(2 * hoops, in_a_row(2 * hoops), c)[0], kind)
                around = ((0, 2 * hoops - 1),) + tuple((i + 1, j + 1) for i, j in in_a_row(2 * hoops - 2))
                self.assertEqual(made_for(2 * hoops, around, c)[0], kind)
                self.assert_made(2 * hoops, in_a_row(2 * hoops), c)
                self.assert_made(2 * hoops, around, c)

    def test_the_wide_ring_alone_is_told(self):
        self.assert_told(("wide", None), made_for, 6, in_a_row(6), 1)
        self.assert_told(("wide", (0, 5)), made_for, 6, ((0, 5), (1, 2), (3, 4)), 1)
        self.assert_told(("wide", (2, 7)), made_for, 8, ((0, 1), (2, 7), (3, 4), (5, 6)), 1)
        self.assert_told(("wide", (1, 6)), made_for, 8, ((0, 7), (1, 6), (2, 3), (4, 5)), 1)

    def test_forty_spots_are_told_soon(self):
        begun = time.monotonic()
        shapes = [nested(40), in_a_row(40), HUGGED, TWO_IN_EACH + ((36, 37), (38, 39))]
        shapes += [full_at("ab" * 20, number) for number in range(0, 6564120420, 328206021)]
        for shape in shapes:
            for c in (0, 1, 2, 3, 9, 10, 13):
                self.assert_made(40, shape, c)
        self.assertEqual(made_for(40, in_a_row(40), 10)[0], "cord")
        self.assertEqual(made_for(40, in_a_row(40), 9), ("wide", None))
        self.assertEqual(made_for(40, HUGGED, 9), ("wide", (0, 39)))
        self.assertLess(time.monotonic() - begun, 30)


class Alone(AskCase):
    def test_by_hand(self):
        for cord, shape, told in (
            ("", (), True), ("ab", ((0, 1),), True), ("aabb", ((0, 3), (1, 2)), True),
            ("abab", ((0, 3), (1, 2)), False), ("abab", ((0, 1), (2, 3)), False), ("abba", ((0, 1), (2, 3)), True),
        ):
            self.assert_told(told, alone, cord, shape)

    def test_against_how_many(self):
        for many in range(0, 7, 2):
            for letters in itertools.product("abcd", repeat=many):
                cord = "".join(letters)
                shapes = full_by_hand(cord)
                for shape in shapes:
                    self.assertIs(alone(cord, shape), len(shapes) == 1)
                    self.assertIs(alone(cord, shape), how_many_full(cord) == 1)

    def test_a_full_shape_that_is_none_of_the_cord(self):
        self.assert_told(False, alone, "aabb", ((0, 1), (2, 3)))
        self.assert_told(False, alone, "acbd", ((0, 1), (2, 3)))

    def test_forty_letters(self):
        self.assert_told(False, alone, "ab" * 20, nested(40))
        self.assert_told(True, alone, "a" * 20 + "b" * 20, nested(40))


if __name__ == "__main__":
    unittest.main()
