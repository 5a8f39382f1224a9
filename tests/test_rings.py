"""Rings: the hoops right within a hoop or within none, and the spots that are free there [2, 7]."""

import copy
import unittest

from hoopcord.rings import ring_of
from listing import bare_shapes, in_a_row, nested, ring_by_hand
from samples import kinds_alike


class RingOf(unittest.TestCase):
    def assert_ring(self, many, shape, hoop, hoops, free):
        with self.subTest(many=many, shape=shape, hoop=hoop):
            kept = copy.deepcopy((shape, hoop))
            for asked in range(2):
                told = ring_of(many, shape, hoop)
                self.assertTrue(kinds_alike(told, (hoops, free)), told)
            self.assertTrue(kinds_alike((shape, hoop), kept))

    def test_no_spots(self):
        self.assert_ring(0, (), None, [], [])

    def test_no_hoops(self):
        for many in (1, 2, 7, 40):
            self.assert_ring(many, (), None, [], list(range(many)))

    def test_a_hoop_without_a_hoop_within(self):
        self.assert_ring(2, ((0, 1),), (0, 1), [], [])
        self.assert_ring(5, ((0, 4),), (0, 4), [], [1, 2, 3])
        self.assert_ring(7, ((2, 4),), (2, 4), [], [3])

    def test_the_outermost_ring(self):
        self.assert_ring(2, ((0, 1),), None, [(0, 1)], [])
        self.assert_ring(5, ((1, 3),), None, [(1, 3)], [0, 4])
        self.assert_ring(8, ((0, 3), (1, 2), (5, 6)), None, [(0, 3), (5, 6)], [4, 7])

    def test_deep(self):
        shape = ((0, 9), (1, 8), (3, 6))
        self.assert_ring(11, shape, None, [(0, 9)], [10])
        self.assert_ring(11, shape, (0, 9), [(1, 8)], [])
        self.assert_ring(11, shape, (1, 8), [(3, 6)], [2, 7])
        self.assert_ring(11, shape, (3, 6), [], [4, 5])

    def test_side_by_side(self):
        shape = ((0, 11), (1, 2), (4, 8), (5, 6), (9, 10), (13, 15))
        self.assert_ring(17, shape, None, [(0, 11), (13, 15)], [12, 16])
        self.assert_ring(17, shape, (0, 11), [(1, 2), (4, 8), (9, 10)], [3])
        self.assert_ring(17, shape, (1, 2), [], [])
        self.assert_ring(17, shape, (4, 8), [(5, 6)], [7])
        self.assert_ring(17, shape, (9, 10), [], [])
        self.assert_ring(17, shape, (13, 15), [], [14])

    def test_forty_spots_deep(self):
        shape = nested(40)
        self.assert_ring(40, shape, None, [(0, 39)], [])
        for spot in range(19):
            self.assert_ring(40, shape, (spot, 39 - spot), [(spot + 1, 38 - spot)], [])
        self.assert_ring(40, shape, (19, 20), [], [])

    def test_forty_spots_side_by_side(self):
        shape = in_a_row(40)
        self.assert_ring(40, shape, None, list(shape), [])
        for hoop in shape:
            self.assert_ring(40, shape, hoop, [], [])

    def test_forty_spots_with_one_hoop_around(self):
        self.assert_ring(40, ((0, 39),), None, [(0, 39)], [])
        self.assert_ring(40, ((0, 39),), (0, 39), [], list(range(1, 39)))
        self.assert_ring(40, ((18, 21),), None, [(18, 21)], list(range(18)) + list(range(22, 40)))

    def test_all_small_shapes(self):
        for many in range(9):
            for shape in bare_shapes(many):
                for hoop in (None,) + shape:
                    told = ring_of(many, shape, hoop)
                    self.assertTrue(kinds_alike(told, ring_by_hand(many, shape, hoop)), (many, shape, hoop, told))

    def test_every_list_is_new_and_the_askers_own(self):
        shape = ((0, 7), (1, 3), (4, 5))
        for many, pairs, hoop in (
            (0, (), None), (3, (), None), (8, shape, None), (8, shape, (0, 7)), (8, shape, (1, 3)), (8, shape, (4, 5)),
        ):
            with self.subTest(pairs=pairs, hoop=hoop):
                first = ring_of(many, pairs, hoop)
                second = ring_of(many, pairs, hoop)
                kept = copy.deepcopy(first)
                for one in (first, second):
                    self.assertIsNot(one[0], one[1])
                    for place in (0, 1):
                        self.assertIsNot(first[place], second[place])
                first[0].append((8, 9))
                self.assertEqual(first[1], kept[1])
                first[1].append(9)
                first[1].reverse()
                self.assertEqual(first[0], kept[0] + [(8, 9)])
                self.assertEqual(second, kept)
                second[0].clear()
                self.assertEqual(second[1], kept[1])
                second[1].clear()
                self.assert_ring(many, pairs, hoop, kept[0], kept[1])


if __name__ == "__main__":
    unittest.main()
