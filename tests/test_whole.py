"""The whole: numbers, prices, tables, shares, majorities, full shapes and made cords together [1, 3]."""

import collections
import itertools
import unittest

from hoopcord.books import is_book
from hoopcord.cords import all_pairs, is_cord
from hoopcord.counting import how_many
from hoopcord.desk import Desk
from hoopcord.errors import NoNumber
from hoopcord.fractions import below, less, plus, reduced, times
from hoopcord.full import full_at, how_many_full, is_full
from hoopcord.least import least
from hoopcord.making import alone, breadth, made_for
from hoopcord.nearness import far, majority, mean_far, nearest
from hoopcord.numbering import number_of, shape_at
from hoopcord.others import other_full
from hoopcord.pricing import price
from hoopcord.shapes import is_shape, row_of
from hoopcord.shares import all_shares, are_shares, free_share, share
from hoopcord.spectra import by_price, hooped_by_price, up_to
from hoopcord.tables import bears, shows, table
from hoopcord.texts import read_shape, show_shape
from listing import book_of
from reckoning import some_books, some_cords
from samples import BOOK, LETTERS, with_part

GAPLESS = with_part(BOOK, 0, 0)
FORKING = (0, (("a", "a", -3),), (("a", "a", "a", "a", -9),), (5, 3), (2, -7), (-5, -4, 2))

ASKED = list(zip(some_books(40, 61), some_cords(40, 8, 62))) + [
    (BOOK, ""), (BOOK, "abeabe"), (GAPLESS, "aabbabcd"), (GAPLESS, "cabdcabd"), (FORKING, "aaaaaaa"),
    (book_of(0, "aa"), "aaaaaa"), (book_of(2, "ab", "ba"), "abababab"),
]


class Shapes(unittest.TestCase):
    """What is told of a cord and a book, by the shapes of all its numbers."""

    def each(self):
        for book, cord in ASKED:
            self.assertTrue(is_book(book) and is_cord(cord))
            yield book, cord, [shape_at(book, cord, number) for number in range(how_many(book, cord))]

    def test_each_shape_has_one_number_and_each_number_one_shape(self):
        for book, cord, shapes in self.each():
            rows = [row_of(len(cord), shape) for shape in shapes]
            self.assertTrue(all(one < other for one, other in zip(rows, rows[1:])))
            for number, shape in enumerate(shapes):
                self.assertTrue(is_shape(book, cord, shape))
                self.assertEqual(number_of(book, cord, shape), number)
                self.assertEqual(read_shape(len(cord), show_shape(len(cord), shape)), shape)
            self.assertRaises(NoNumber, shape_at, book, cord, len(shapes))
            # No more than these: every choice of pairs that is a shape is among them.
            pairs = all_pairs(book, cord)
            if len(pairs) <= 10:
                chosen = itertools.chain.from_iterable(
                    itertools.combinations(pairs, many) for many in range(len(pairs) + 1))
                self.assertEqual(len([one for one in chosen if is_shape(book, cord, one)]), len(shapes))

    def test_the_least_price_is_that_of_its_shape_and_the_table_shows_it(self):
        for book, cord, shapes in self.each():
            prices = [price(book, cord, shape) for shape in shapes]
            cost, shape = least(book, cord)
            told = table(book, cord)
            self.assertEqual(cost, min(prices))
            self.assertIn(shape, shapes)
            self.assertEqual(price(book, cord, shape), cost)
            self.assertIs(bears(book, cord, told), True)
            self.assertIs(shows(book, cord, cost, told), True)
            self.assertIs(shows(book, cord, cost + 1, told), False)

    def test_how_many_shapes_of_each_price_hoop_two_spots(self):
        for book, cord, shapes in self.each():
            priced = [(shape, price(book, cord, shape)) for shape in shapes]
            whole = collections.Counter(cost for shape, cost in priced)
            self.assertEqual(by_price(book, cord), sorted(whole.items()))
            self.assertEqual(by_price(book, cord)[0][0], least(book, cord)[0])
            for i, j in itertools.combinations(range(len(cord)), 2):
                hooped = collections.Counter(cost for shape, cost in priced if (i, j) in shape)
                self.assertEqual(hooped_by_price(book, cord, i, j), sorted(hooped.items()))
            for number in sorted(whole):
                self.assertEqual(up_to(book, cord, number), len([cost for shape, cost in priced if cost <= number]))

    def test_at_each_spot_the_shares_come_to_one(self):
        for book, cord, shapes in self.each():
            for base in (1, 2, 9):
                shares = all_shares(book, cord, base)
                self.assertIs(are_shares(book, cord, base, shares), True)
                for spot in range(len(cord)):
                    left = less((1, 1), free_share(book, cord, spot, base))
                    for i, j, part in shares:
                        self.assertEqual(share(book, cord, i, j, base), part)
                        if spot in (i, j):
                            left = less(left, part)
                    self.assertEqual(left, (0, 1))

    def test_a_share_is_that_of_the_prices_counted(self):
        for book, cord, shapes in self.each():
            for base in (1, 3):
                top = by_price(book, cord)[-1][0]
                total = sum(many * base ** (top - cost) for cost, many in by_price(book, cord))
                for i, j in itertools.combinations(range(len(cord)), 2):
                    part = sum(many * base ** (top - cost) for cost, many in hooped_by_price(book, cord, i, j))
                    self.assertEqual(share(book, cord, i, j, base), reduced(part, total))

    def test_the_majority_is_a_shape_and_none_lies_nearer(self):
        for book, cord, shapes in self.each():
            for base in (1, 2, 9):
                half = tuple((i, j) for i, j, part in all_shares(book, cord, base) if below((1, 2), part))
                told = majority(book, cord, base)
                self.assertEqual(told, half)
                self.assertIn(told, shapes)
                mean = mean_far(book, cord, told, base)
                self.assertEqual(nearest(book, cord, base), (told, mean))
                for shape in shapes[::7]:
                    self.assertIs(below(mean_far(book, cord, shape, base), mean), False)

    def test_the_mean_by_shares(self):
        for book, cord, shapes in self.each():
            shape = least(book, cord)[1]
            for base in (1, 4):
                mean = (len(shape), 1)
                for i, j, part in all_shares(book, cord, base):
                    mean = less(mean, part) if (i, j) in shape else plus(mean, part)
                self.assertEqual(mean_far(book, cord, shape, base), mean)
            alike = (0, 1)
            for other in shapes:
                alike = plus(alike, times((far(shape, other), 1), (1, len(shapes))))
            self.assertEqual(mean_far(book, cord, shape, 1), alike)

    def test_the_desk_tells_the_same(self):
        for book, cord, shapes in self.each():
            desk = Desk(book, cord)
            self.assertEqual(desk.say("many"), str(len(shapes)))
            texts = [desk.say(f"shape {number}") for number in range(len(shapes))]
            self.assertEqual(texts, [show_shape(len(cord), shape) or "-" for shape in shapes])
            prices = [int(desk.say(f"price {text}")) for text in texts]
            self.assertEqual(desk.say("least").split(" ")[0], str(min(prices)))
            self.assertEqual([desk.say(f"number {text}") for text in texts], [str(n) for n in range(len(texts))])


class FullShapes(unittest.TestCase):
    """For each full shape and each number of sorts there is a cord, or a ring that is too wide."""

    def test_each_full_shape_of_few_spots(self):
        for many in range(0, 11, 2):
            cord = "ab" * (many // 2)
            for number in range(how_many_full(cord)):
                shape = full_at(cord, number)
                self.assertIs(is_full(many, shape), True)
                for c in range(5):
                    self.assert_made_or_wide(many, shape, c)

    def assert_made_or_wide(self, many, shape, c):
        kind, told = made_for(many, shape, c)
        if kind == "cord":
            self.assertTrue(set(told) <= set(LETTERS[:2 * c]))
            self.assertEqual((how_many_full(told), full_at(told, 0)), (1, shape))
            self.assertIs(alone(told, shape), True)
            self.assertIsNone(other_full(told, shape))
            return
        self.assertEqual(kind, "wide")
        self.assertGreater(breadth(many, shape, told), 2 * c)
        for cord in self.some_cords_that_fit(many, shape, c):
            other = other_full(cord, shape)
            self.assertGreater(how_many_full(cord), 1)
            self.assertIs(alone(cord, shape), False)
            self.assertNotEqual(other, shape)
            self.assertIn(other, [full_at(cord, number) for number in range(how_many_full(cord))])

    def some_cords_that_fit(self, many, shape, c):
        """Tell some cords of the first c sorts of which the full shape is one."""
        for step in range(6 if c else 0):
            letters = [""] * many
            for at, (i, j) in enumerate(shape):
                first = (at * step + step // 2 + at // 3) % (2 * c)
                letters[i] = LETTERS[first]
                letters[j] = LETTERS[first + 1 - 2 * (first % 2)]
            yield "".join(letters)


if __name__ == "__main__":
    unittest.main()
