"""Shapes found by trying every set of pairs, as the document tells them word by word."""

import itertools


def book_of(gap, *hoops):
    """Tell a book of a gap and hoops of which each costs 1."""
    return (gap, tuple((x, y, 1) for x, y in hoops), (), (0,), (0,), (0, 0, 0))


def hoopable(book, cord):
    """Tell the pairs of spots that may be hooped."""
    letters = {(x, y) for x, y, price in book[1]}
    return [
        (i, j) for i, j in itertools.combinations(range(len(cord)), 2)
        if j - i - 1 >= book[0] and (cord[i], cord[j]) in letters
    ]


def are_side_by_side_or_nested(pairs):
    """Tell whether no two of the pairs share a spot or cross."""
    for (i, j), (k, m) in itertools.permutations(pairs, 2):
        if {i, j} & {k, m} or i < k < j < m:
            return False
    return True


def shapes_of_pairs(pairs):
    """Tell every choice among the pairs in which no two share a spot or cross."""
    chosen = [()]
    for pair in sorted(pairs):
        chosen += [shape + (pair,) for shape in chosen if are_side_by_side_or_nested(shape + (pair,))]
    return chosen


def row_by_hand(many, shape):
    """Tell the row of a shape, spot by spot."""
    partners = dict(shape)
    partners.update((j, i) for i, j in shape)
    return [partners.get(spot, -1) for spot in range(many)]


def all_shapes(book, cord):
    """Tell every shape of the cord and book, in the order of their rows."""
    return sorted(shapes_of_pairs(hoopable(book, cord)), key=lambda shape: row_by_hand(len(cord), shape))


def bare_shapes(many):
    """Tell every rising tuple of pairs of spots below many that share no spot and don't cross."""
    return shapes_of_pairs(itertools.combinations(range(many), 2))


def full_shapes(many):
    """Tell every full shape of many spots, in the order of their rows."""
    if many == 0:
        return [()]
    told = []
    for partner in range(1, many, 2):
        for within in full_shapes(partner - 1):
            for behind in full_shapes(many - partner - 1):
                inner = tuple((i + 1, j + 1) for i, j in within)
                outer = tuple((i + partner + 1, j + partner + 1) for i, j in behind)
                told.append(((0, partner),) + inner + outer)
    return told


FELLOWS = set("ab ba cd dc ef fe gh hg ij ji kl lk mn nm op po qr rq st ts uv vu wx xw yz zy".split())


def full_by_hand(cord):
    """Tell every full shape of a cord, in the order of their rows."""
    return [shape for shape in full_shapes(len(cord)) if all(cord[i] + cord[j] in FELLOWS for i, j in shape)]


def nested(many):
    """Tell the hoops of many spots that lie each within the one before."""
    return tuple((spot, many - 1 - spot) for spot in range(many // 2))


def in_a_row(many):
    """Tell the hoops of many spots that lie side by side, each of two neighbours."""
    return tuple((spot, spot + 1) for spot in range(0, many - 1, 2))


def ring_by_hand(many, shape, hoop):
    """Tell the ring as the document tells it, pair by pair and spot by spot."""
    i, j = (-1, many) if hoop is None else hoop
    between = [(k, m) for k, m in shape if i < k and m < j]
    hoops = [
        (k, m) for k, m in between
        if not any(other[0] < k and m < other[1] for other in between)
    ]
    free = [spot for spot in range(i + 1, j) if not any(k <= spot <= m for k, m in hoops)]
    return (hoops, free)


# Small cords with all their shapes, written by hand, in the order of their rows.
LISTED = (
    (book_of(0, "ab"), "ab", ["..", "()"]),
    (book_of(0, "ab"), "ba", [".."]),
    (book_of(0, "ab", "ba"), "ba", ["..", "()"]),
    (book_of(0, "ab"), "aab", ["...", ".()", "(.)"]),
    (book_of(0, "ab"), "aabb", ["....", ".().", ".(.)", "(.).", "(..)", "(())"]),
    (book_of(1, "ab"), "aabb", ["....", ".(.)", "(.).", "(..)"]),
    (book_of(2, "ab"), "aabb", ["....", "(..)"]),
    (book_of(3, "ab"), "aabb", ["...."]),
    (book_of(0, "ab"), "abab", ["....", "..()", "()..", "()()", "(..)"]),
    (book_of(0, "aa"), "aaa", ["...", ".()", "().", "(.)"]),
    (book_of(0, "aa"), "aaaa", ["....", "..()", ".().", ".(.)", "()..", "()()", "(.).", "(..)", "(())"]),
    (book_of(0, "ab", "cd"), "cabd", ["....", ".().", "(..)", "(())"]),
    (book_of(0, "ab", "cd"), "acbd", ["....", ".(.)", "(.)."]),
)
