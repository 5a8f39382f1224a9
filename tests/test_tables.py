"""Tables: their form, where one bears, and what it shows [2, 13]."""

import copy
import time
import unittest

from hoopcord.tables import bears, shows, table
from listing import book_of
from reckoning import KINDS, broken_rows, form_by_hand, least_by_hand, some_books, some_cords, with_more
from samples import BOOK, GREATEST_BOOK, HUGE, LEAST_BOOK, kinds_alike, with_part

ASKED = list(zip(some_books(80, 7), some_cords(80, 8, 8))) + [
    (LEAST_BOOK, ""), (LEAST_BOOK, "abc"), (BOOK, "abeabe"), (with_part(BOOK, 0, 0), "aabbabcd"), (GREATEST_BOOK, "zg"),
    (book_of(0, "aa"), "aaaaaa"),
]

# Hoops of a and b for 3 less, an end for nothing: each book has one more thing that is cheap.
NESTING = (0, (("a", "b", -3),), (("a", "b", "a", "b", -2),), (0,), (9,), (9, 0, 0))
BENDING = (0, (("a", "b", -3),), (), (0,), (-5,), (9, 0, 0))
FORKING = (0, (("a", "b", -3),), (), (0,), (9,), (-5, -5, 2))


class TableCase(unittest.TestCase):
    def assert_told(self, ask, handed, told):
        with self.subTest(handed=handed):
            kept = copy.deepcopy(handed)
            for asked in range(2):
                self.assertIs(ask(*handed), told)
            self.assertTrue(kinds_alike(handed, kept))


class Table(TableCase):
    def test_no_letters(self):
        self.assertTrue(kinds_alike(table(BOOK, ""), ([], [], [(0, 0)])))

    def test_the_form(self):
        for book, cord in ASKED:
            with self.subTest(book=book, cord=cord):
                told = table(book, cord)
                self.assertIs(type(told), tuple)
                self.assertEqual([type(rows) for rows in told], [list, list, list])
                hooped, inside, outer = told
                for row in hooped + inside + outer:
                    self.assertIs(type(row), tuple)
                    self.assertEqual([type(number) for number in row], [int] * len(row))
                pairs = [row[:-1] for row in hooped], [row[:-1] for row in inside], [i for i, number in outer]
                self.assertEqual(pairs, form_by_hand(book, cord))

    def test_the_pairs_of_some_cords(self):
        hooped, inside, outer = table(book_of(0, "ab"), "xab")
        self.assertEqual([row[:2] for row in hooped], [(1, 2)])
        self.assertEqual([row[:2] for row in inside], [(0, 3), (1, 3)])
        self.assertEqual([row[0] for row in outer], [0, 1, 2, 3])
        hooped, inside, outer = table(book_of(1, "ab"), "aabb")
        self.assertEqual([row[:2] for row in hooped], [(0, 2), (0, 3), (1, 3)])
        self.assertEqual([row[:2] for row in inside], [(0, 3), (0, 4), (1, 4)])

    def test_it_bears_and_shows_the_least_price(self):
        for book, cord in ASKED:
            told = table(book, cord)
            lowest = least_by_hand(book, cord)
            self.assertEqual(broken_rows(book, cord, told), [])
            self.assertEqual(told[2][0], (0, lowest))
            self.assert_told(bears, (book, cord, told), True)
            self.assert_told(shows, (book, cord, lowest, told), True)

    def test_nothing_handed_in_is_changed(self):
        for book, cord in ASKED[:20]:
            kept = copy.deepcopy(book)
            table(book, cord)
            self.assertTrue(kinds_alike(book, kept))

    def test_every_list_is_new_and_the_askers_own(self):
        for book, cord in ((NESTING, "aabb"), (LEAST_BOOK, ""), (LEAST_BOOK, "ab"), (FORKING, "aababb")):
            with self.subTest(book=book, cord=cord):
                first, second = table(book, cord), table(book, cord)
                lists = list(first + second)
                for at, one in enumerate(lists):
                    for other in lists[:at]:
                        self.assertIsNot(one, other)
                kept = copy.deepcopy(first)
                self.assertEqual(second, kept)
                for place in range(3):
                    first[place].append((7, 8, 9))
                    first[place].reverse()
                    for later in range(place + 1, 3):
                        self.assertEqual(first[later], kept[later])
                self.assertEqual(second, kept)
                for rows in second:
                    rows.clear()
                self.assertEqual(table(book, cord), kept)

    def test_twenty_letters_are_told_soon(self):
        begun = time.monotonic()
        book, cord = with_part(FORKING, 1, (("a", "a", -3),)), "a" * 20
        told = table(book, cord)
        self.assertEqual([len(rows) for rows in told], [190, 190, 21])
        self.assertIs(bears(book, cord, told), True)
        self.assertIs(shows(book, cord, told[2][0][1], told), True)
        self.assertIs(shows(book, cord, told[2][0][1] + 1, told), False)
        self.assertEqual(broken_rows(book, cord, told), [])
        self.assertLess(time.monotonic() - begun, 20)


class Bears(TableCase):
    def assert_broken_alone(self, book, cord, told, kind):
        """One row, of this kind, is broken, by 1: the table doesn't bear, and shows no price."""
        self.assertEqual(broken_rows(book, cord, told), [(kind, 1)])
        self.assert_told(bears, (book, cord, told), False)
        self.assert_told(shows, (book, cord, -HUGE, told), False)

    def test_tables_by_hand(self):
        self.assert_told(bears, (LEAST_BOOK, "", ([], [], [(0, 0)])), True)
        self.assert_told(bears, (LEAST_BOOK, "", ([], [], [(0, -5)])), True)
        self.assert_told(bears, (LEAST_BOOK, "ab", ([], [], [(0, 0), (1, 0), (2, 0)])), True)
        self.assert_told(bears, (LEAST_BOOK, "ab", ([], [], [(0, -3), (1, -2), (2, -1)])), True)
        self.assert_told(bears, (NESTING, "ab", ([(0, 1, -3)], [(0, 2, -3)], [(0, -3), (1, 0), (2, 0)])), True)
        self.assert_told(bears, (NESTING, "ab", ([(0, 1, -4)], [(0, 2, -6)], [(0, -9), (1, -3), (2, -2)])), True)

    def test_the_length_alone_is_broken(self):
        self.assert_broken_alone(LEAST_BOOK, "", ([], [], [(0, 1)]), "a length")
        self.assert_broken_alone(LEAST_BOOK, "ab", ([], [], [(0, 0), (1, 0), (2, 1)]), "a length")
        told = ([(0, 1, -3)], [(0, 2, -3)], [(0, -3), (1, 0), (2, 1)])
        self.assert_broken_alone(NESTING, "ab", told, "a length")

    def test_the_next_spot_alone_is_broken(self):
        self.assert_broken_alone(LEAST_BOOK, "ab", ([], [], [(0, 1), (1, 0), (2, 0)]), "a next")
        self.assert_broken_alone(LEAST_BOOK, "ab", ([], [], [(0, 0), (1, 1), (2, 0)]), "a next")
        told = ([(0, 1, -3)], [(0, 2, -3)], [(0, -3), (1, 1), (2, 0)])
        self.assert_broken_alone(NESTING, "ab", told, "a next")

    def test_a_hoop_from_a_spot_on_alone_is_broken(self):
        told = ([(0, 1, -3)], [(0, 2, -3)], [(0, -2), (1, 0), (2, 0)])
        self.assert_broken_alone(NESTING, "ab", told, "a hoop")
        told = ([(0, 1, -3)], [(0, 2, -3), (0, 3, -3)], [(0, -6), (1, -4), (2, -4), (3, -4)])
        self.assert_broken_alone(NESTING, "abx", told, "a hoop")

    def test_an_end_alone_is_broken(self):
        told = ([(0, 1, -2)], [(0, 2, -3)], [(0, -3), (1, 0), (2, 0)])
        self.assert_broken_alone(NESTING, "ab", told, "b end")

    def test_a_nest_alone_is_broken(self):
        told = (
            [(0, 2, -3), (0, 3, -7), (1, 2, -3), (1, 3, -3)],
            [(0, 3, -3), (0, 4, -8), (1, 3, -3), (1, 4, -3)],
            [(0, -8), (1, -3), (2, 0), (3, 0), (4, 0)],
        )
        self.assert_broken_alone(NESTING, "aabb", told, "b nest")
        self.assert_told(bears, (NESTING, "aabb", with_more(told, 0, 1, -1)), True)

    def test_a_bend_alone_is_broken(self):
        told = table(BENDING, "axabb")
        self.assertEqual(told[0][1], (0, 4, -11))
        self.assert_broken_alone(BENDING, "axabb", with_more(told, 0, 1, 1), "b bend")

    def test_a_fork_alone_is_broken(self):
        told = table(FORKING, "aababb")
        at = [row[:2] for row in told[0]].index((0, 5))
        self.assertEqual(told[0][at], (0, 5, -3 - 5 - 8 - 8))
        self.assert_broken_alone(FORKING, "aababb", with_more(told, 0, at, 1), "b fork")

    def test_a_hoop_inside_alone_is_broken(self):
        told = ([(0, 1, -3)], [(0, 2, -2)], [(0, -3), (1, 0), (2, 0)])
        self.assert_broken_alone(NESTING, "ab", told, "c hoop")

    def test_two_parts_inside_alone_are_broken(self):
        told = table(FORKING, "aababb")
        at = [row[:2] for row in told[1]].index((1, 5))
        self.assertEqual(told[1][at], (1, 5, -16))
        self.assert_broken_alone(FORKING, "aababb", with_more(told, 1, at, 1), "c split")

    def test_each_number_one_more_and_one_less(self):
        alone = set()
        for book, cord in ASKED:
            told = table(book, cord)
            for part in range(3):
                for place in range(len(told[part])):
                    for more in (1, -1, 7, -7, HUGE, -HUGE):
                        changed = with_more(told, part, place, more)
                        broken = broken_rows(book, cord, changed)
                        self.assertIs(bears(book, cord, changed), broken == [], (book, cord, changed))
                        if len(broken) == 1 and broken[0][1] == 1:
                            alone.add(broken[0][0])
        self.assertEqual(sorted(alone), KINDS)

    def test_many_numbers_changed_at_once(self):
        answers = set()
        for book, cord in ASKED:
            for step in range(1, 6):
                told = table(book, cord)
                for part in range(3):
                    for place in range(len(told[part])):
                        told = with_more(told, part, place, -((place + part) * step % 5 // 3))
                answer = broken_rows(book, cord, told) == []
                answers.add(answer)
                self.assertIs(bears(book, cord, told), answer, (book, cord, told))
        self.assertEqual(answers, {True, False})

    def test_numbers_far_below(self):
        far = 10 ** 45
        for book, cord in ASKED:
            pairs, inside, spots = form_by_hand(book, cord)
            told = (
                [(i, j, -far * 9 ** (j - i)) for i, j in pairs],
                [(i, j, -far * 9 ** (j - i)) for i, j in inside],
                [(i, -far * 9 ** (len(cord) - i + 1)) for i in spots],
            )
            self.assertEqual(broken_rows(book, cord, told), [])
            self.assert_told(bears, (book, cord, told), True)
            self.assert_told(shows, (book, cord, told[2][0][1], told), True)
            self.assert_told(shows, (book, cord, told[2][0][1] + 1, told), False)
            self.assert_told(shows, (book, cord, least_by_hand(book, cord), told), False)

    def test_all_numbers_alike(self):
        for book, cord in ASKED[:30]:
            pairs, inside, spots = form_by_hand(book, cord)
            for number in (-HUGE, -9, -1, 0, 1, 9, HUGE):
                told = (
                    [(i, j, number) for i, j in pairs], [(i, j, number) for i, j in inside],
                    [(i, number) for i in spots],
                )
                self.assert_told(bears, (book, cord, told), broken_rows(book, cord, told) == [])


class Shows(TableCase):
    def test_the_least_price_one_less_and_one_more(self):
        for book, cord in ASKED:
            told = table(book, cord)
            lowest = told[2][0][1]
            for number in (lowest, lowest - 1, lowest - 9, -HUGE):
                self.assert_told(shows, (book, cord, number, told), True)
            for number in (lowest + 1, lowest + 9, HUGE):
                self.assert_told(shows, (book, cord, number, told), False)

    def test_a_table_that_bears_with_a_lower_number(self):
        told = ([(0, 1, -3)], [(0, 2, -3)], [(0, -5), (1, 0), (2, 0)])
        for number, answer in ((-6, True), (-5, True), (-4, False), (-3, False), (0, False)):
            self.assert_told(shows, (NESTING, "ab", number, told), answer)

    def test_a_table_that_does_not_bear_shows_nothing(self):
        told = ([(0, 1, -3)], [(0, 2, -3)], [(0, -2), (1, 0), (2, 0)])
        for number in (-HUGE, -4, -3, -2, -1, 0, HUGE):
            self.assert_told(shows, (NESTING, "ab", number, told), False)
        for number in (-HUGE, -1, 0, 1):
            self.assert_told(shows, (LEAST_BOOK, "", number, ([], [], [(0, 1)])), False)


if __name__ == "__main__":
    unittest.main()
