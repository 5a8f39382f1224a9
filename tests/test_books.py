"""Books: what is one, and the own price of a hoop [2, 5, 6]."""

import copy
import unittest

from hoopcord.books import is_book, own_price
from samples import (
    BOOK, GREATEST_BOOK, HUGE, LEAST_BOOK, LETTERS, NO_SMALL_LETTERS, NO_TUPLES, NO_WHOLE_NUMBERS, kinds_alike,
    with_part,
)

GAP, HOOPS, NESTS, ENDS, BENDS, FORK = range(6)


class BookCase(unittest.TestCase):
    def assert_book(self, thing):
        with self.subTest(book=thing):
            self.assertIs(is_book(thing), True)

    def assert_no_book(self, thing):
        with self.subTest(no_book=thing):
            kept = copy.deepcopy(thing)
            self.assertIs(is_book(thing), False)
            self.assertIs(is_book(thing), False)
            self.assertTrue(kinds_alike(thing, kept))

    def assert_no_part(self, place, part):
        """Each book is none with this part in place of its own."""
        for book in (LEAST_BOOK, BOOK, GREATEST_BOOK):
            self.assert_no_book(with_part(book, place, part))

    def assert_no_price_at(self, place, number):
        """Spoil one price in a part that is a tuple of prices."""
        for spoilt in (-10, 10, -11, 11, -HUGE, HUGE) + NO_WHOLE_NUMBERS:
            self.assert_no_part(place, with_part(BOOK[place], number, spoilt))


class Whole(BookCase):
    def test_books(self):
        for book in (LEAST_BOOK, BOOK, GREATEST_BOOK):
            self.assert_book(book)
            self.assert_book(book)

    def test_bounds_of_the_greatest_book_are_met(self):
        self.assertEqual([len(part) for part in GREATEST_BOOK[1:]], [40, 40, 8, 8, 3])

    def test_things_that_are_no_tuples(self):
        for thing in NO_TUPLES:
            self.assert_no_book(thing)

    def test_another_kind_for_the_tuple(self):
        for book in (LEAST_BOOK, BOOK, GREATEST_BOOK):
            self.assert_no_book(list(book))

    def test_a_part_less_or_more(self):
        for book in (LEAST_BOOK, BOOK, GREATEST_BOOK):
            for many in range(6):
                self.assert_no_book(book[:many])
            for place in range(6):
                self.assert_no_book(book[:place] + book[place + 1:])
            for more in ((), None, 0, (0, 0, 0), (0,)):
                self.assert_no_book(book + (more,))
            self.assert_no_book((book,))
            self.assert_no_book(book + book)

    def test_two_parts_changed_about(self):
        for place in range(5):
            parts = list(BOOK)
            parts[place], parts[place + 1] = parts[place + 1], parts[place]
            if place != ENDS:
                self.assert_no_book(tuple(parts))

    def test_each_part_of_another_kind(self):
        for place in (HOOPS, NESTS, ENDS, BENDS, FORK):
            for part in NO_TUPLES:
                self.assert_no_part(place, part)
            for book in (LEAST_BOOK, BOOK, GREATEST_BOOK):
                self.assert_no_book(with_part(book, place, list(book[place])))

    def test_what_is_handed_in_is_not_changed(self):
        for book in (LEAST_BOOK, BOOK, GREATEST_BOOK):
            listed = [list(part) if isinstance(part, tuple) else part for part in book]
            self.assert_no_book(listed)
            rows = [list(row) for row in book[HOOPS]]
            self.assert_no_book(with_part(book, HOOPS, rows))


class Gap(BookCase):
    def test_each_gap(self):
        for gap in range(7):
            self.assert_book(with_part(BOOK, GAP, gap))

    def test_beyond_its_bounds(self):
        for gap in (-1, 7, -2, 8, 100, -HUGE, HUGE):
            self.assert_no_part(GAP, gap)

    def test_another_kind(self):
        for gap in NO_WHOLE_NUMBERS:
            self.assert_no_part(GAP, gap)


class LetteredPrices(BookCase):
    """Hoops and nests: tuples of letters and a price, unlike in their letters."""

    rows = {HOOPS: ("c", "d", 1), NESTS: ("c", "d", "b", "a", 1)}

    def assert_rows(self, place, rows):
        for book in (LEAST_BOOK, BOOK, GREATEST_BOOK):
            self.assert_book(with_part(book, place, rows))

    def assert_no_row(self, place, row):
        """A spoilt row spoils the book wherever it stands among rows that are right."""
        rows = tuple(other for other in BOOK[place] if other[:2] != ("c", "d"))
        for at in range(len(rows) + 1):
            self.assert_no_book(with_part(BOOK, place, rows[:at] + (row,) + rows[at:]))
        self.assert_no_part(place, (row,))

    def test_each_price(self):
        for place, row in self.rows.items():
            for price in range(-9, 10):
                self.assert_rows(place, (row[:-1] + (price,),))

    def test_no_price(self):
        for place, row in self.rows.items():
            for price in (-10, 10, -11, 11, -HUGE, HUGE) + NO_WHOLE_NUMBERS:
                self.assert_no_row(place, row[:-1] + (price,))

    def test_each_letter_at_each_place(self):
        for place, row in self.rows.items():
            for at in range(len(row) - 1):
                for letter in LETTERS:
                    self.assert_rows(place, (with_part(row, at, letter),))

    def test_no_small_letter(self):
        for place, row in self.rows.items():
            for at in range(len(row) - 1):
                for thing in NO_SMALL_LETTERS:
                    self.assert_no_row(place, with_part(row, at, thing))

    def test_rows_of_another_length(self):
        for place, row in self.rows.items():
            for many in range(len(row)):
                self.assert_no_row(place, row[:many])
                self.assert_no_row(place, row[:many] + row[many + 1:])
            for more in (0, "a", None):
                self.assert_no_row(place, row + (more,))
                self.assert_no_row(place, (more,) + row)

    def test_rows_of_another_part(self):
        self.assert_no_row(HOOPS, self.rows[NESTS])
        self.assert_no_row(NESTS, self.rows[HOOPS])

    def test_rows_of_another_kind(self):
        for place, row in self.rows.items():
            for thing in NO_TUPLES + (list(row), "".join(row[:-1]), row[-1], (), (row,)):
                self.assert_no_row(place, thing)

    def test_one_row_for_a_tuple_of_rows(self):
        for place, row in self.rows.items():
            self.assert_no_part(place, row)

    def test_forty_rows_and_more(self):
        for place, row in self.rows.items():
            for many in (39, 40, 41, 42, 80):
                rows = tuple((LETTERS[k % 26], LETTERS[k // 26]) + row[2:] for k in range(many))
                if many <= 40:
                    self.assert_rows(place, rows)
                else:
                    self.assert_no_part(place, rows)

    def test_the_same_letters_twice(self):
        for place in (HOOPS, NESTS):
            for book in (BOOK, GREATEST_BOOK):
                rows = book[place][:39]
                for row in rows:
                    for price in (row[-1], 1):
                        self.assert_no_book(with_part(book, place, rows + (row[:-1] + (price,),)))
                        self.assert_no_book(with_part(book, place, (row[:-1] + (price,),) + rows))

    def test_letters_in_another_order_are_others(self):
        self.assert_rows(HOOPS, (("a", "b", 1), ("b", "a", 1), ("a", "a", 1), ("b", "b", 1)))
        self.assert_rows(NESTS, (
            ("a", "b", "c", "d", 1), ("b", "a", "c", "d", 1), ("a", "b", "d", "c", 1), ("c", "d", "a", "b", 1),
        ))

    def test_nests_unlike_in_one_letter_alone(self):
        row = ("a", "a", "a", "a", 1)
        self.assert_rows(NESTS, (row,) + tuple(with_part(row, at, "b") for at in range(4)))

    def test_nests_of_letters_without_a_hoop(self):
        self.assert_book(with_part(LEAST_BOOK, NESTS, (("x", "y", "z", "z", 3),)))


class EndsAndBends(BookCase):
    def test_one_to_eight_prices(self):
        for place in (ENDS, BENDS):
            for many in range(1, 9):
                for price in range(-9, 10):
                    self.assert_book(with_part(BOOK, place, (price,) * many))

    def test_no_price_and_nine_prices(self):
        for place in (ENDS, BENDS):
            for many in (0, 9, 10, 41):
                self.assert_no_part(place, (0,) * many)

    def test_what_is_no_price_at_any_place(self):
        for place in (ENDS, BENDS):
            for at in range(len(BOOK[place])):
                self.assert_no_price_at(place, at)

    def test_what_is_no_price_among_eight(self):
        for place in (ENDS, BENDS):
            for at in range(8):
                for spoilt in (-10, 10, True, None, "1", (1,), [1]):
                    self.assert_no_book(with_part(GREATEST_BOOK, place, with_part(GREATEST_BOOK[place], at, spoilt)))


class Fork(BookCase):
    def test_each_price(self):
        for price in range(-9, 10):
            self.assert_book(with_part(BOOK, FORK, (price, 0, 0)))
            self.assert_book(with_part(BOOK, FORK, (0, price, 0)))

    def test_free_has_bounds_of_its_own(self):
        for free in range(-2, 3):
            self.assert_book(with_part(BOOK, FORK, (9, -9, free)))
        for free in (-10, -9, -4, -3, 3, 4, 9, 10):
            self.assert_no_part(FORK, (0, 0, free))

    def test_what_is_no_price(self):
        for at in range(3):
            self.assert_no_price_at(FORK, at)

    def test_a_price_less_or_more(self):
        for many in (0, 1, 2, 4, 5, 8):
            self.assert_no_part(FORK, (0,) * many)


class OwnPrice(unittest.TestCase):
    def assert_price(self, book, x, y, price):
        with self.subTest(x=x, y=y):
            kept = copy.deepcopy(book)
            for asked in range(2):
                told = own_price(book, x, y)
                self.assertTrue(kinds_alike(told, price), told)
            self.assertTrue(kinds_alike(book, kept))

    def test_a_hoop_of_the_book(self):
        self.assert_price(BOOK, "a", "b", -3)
        self.assert_price(BOOK, "e", "e", 9)

    def test_the_letters_the_other_way_round_are_another_hoop(self):
        self.assert_price(BOOK, "b", "a", 2)
        self.assert_price(BOOK, "d", "c", None)

    def test_price_nought_is_a_price(self):
        self.assert_price(BOOK, "c", "d", 0)

    def test_letters_without_a_hoop(self):
        for x, y in (("a", "a"), ("a", "c"), ("c", "b"), ("e", "f"), ("z", "z")):
            self.assert_price(BOOK, x, y, None)

    def test_nests_are_no_hoops(self):
        book = with_part(LEAST_BOOK, NESTS, (("x", "y", "u", "v", 3),))
        for x, y in (("x", "y"), ("u", "v"), ("y", "u")):
            self.assert_price(book, x, y, None)

    def test_every_two_letters(self):
        for book in (LEAST_BOOK, BOOK, GREATEST_BOOK):
            prices = {(x, y): price for x, y, price in book[HOOPS]}
            for x in LETTERS:
                for y in LETTERS:
                    self.assert_price(book, x, y, prices.get((x, y)))


if __name__ == "__main__":
    unittest.main()
