"""Point [35]: the cover and the synthesis of functional dependencies."""

import copy
import random
import unittest
from itertools import product

from norowstray.functional import cover, synthesis
from norowstray.joining import loss
from norowstray.keys import keys
from norowstray.schemes import check_book
from tests.plain import all_sets, plain_follows, some_set

ROUND = tuple(("settles", 0, (a,), (b,)) for a, b in ((0, 1), (1, 2), (2, 0), (0, 2), (2, 1), (1, 0)))


def settling(*sides):
    return tuple(("settles", 0, left, right) for left, right in sides)


def closed(book, columns):
    """What the columns settle, by adding what is settled until nothing is added."""
    known = set(columns)
    while True:
        more = {c for _, _, left, right in book if set(left) <= known for c in right} - known
        if not more:
            return known
        known |= more


def says(book, left, column):
    return column in closed(book, left)


def plain_cover(book):
    """By the words of point [35]."""
    single = [(left, c) for _, _, left, right in book for c in right if c not in left]
    short = []
    for left, c in single:
        for column in left:
            fewer = tuple(one for one in left if one != column)
            if says(book, fewer, c):
                left = fewer
        short.append((left, c))
    at = 0
    while at < len(short):
        others = settling(*((left, (c,)) for left, c in short[:at] + short[at + 1:]))
        if says(others, *short[at]):
            del short[at]
        else:
            at += 1
    return settling(*((left, (c,)) for left, c in short))


def plain_synthesis(width, book):
    """By the words of point [35]."""
    told = plain_cover(book)
    lefts = list(dict.fromkeys(left for _, _, left, _ in told))
    sets = [tuple(sorted(set(left).union(*(right for _, _, one, right in told if one == left)))) for left in lefts]
    every = set(range(width))
    having = [one for one in all_sets(every) if closed(book, one) == every]
    found = [one for one in having if not any(set(other) < set(one) for other in having)]
    if not any(set(key) <= set(one) for key in found for one in sets):
        sets.append(found[0])
    sets = list(dict.fromkeys(sets))
    return tuple(one for one in sets if not any(set(one) < set(other) for other in sets))


def some_settling(chance, width, most, odds):
    return settling(*((some_set(chance, width, odds), some_set(chance, width, 0.4))
                      for _ in range(chance.randint(0, most))))


class CoverTest(unittest.TestCase):
    def told(self, width, book, wanted):
        self.assertEqual(cover((width,), book), wanted)
        self.assertEqual(plain_cover(book), wanted)

    def test_empty_book(self):
        self.told(1, (), ())
        self.told(4, (), ())

    def test_several_columns_on_the_right(self):
        self.told(4, settling(((0,), (1, 2, 3))), settling(((0,), (1,)), ((0,), (2,)), ((0,), (3,))))
        self.told(3, settling(((), (0, 2))), settling(((), (0,)), ((), (2,))))

    def test_columns_of_the_left_on_the_right(self):
        self.told(3, settling(((0, 2), (0, 1, 2))), settling(((0, 2), (1,))))

    def test_nothing_left_to_settle(self):
        self.told(3, settling(((0, 1), (0,)), ((2,), ()), ((), ()), ((0, 1, 2), (0, 1, 2))), ())

    def test_columns_of_the_left_are_looked_at_in_ascending_order(self):
        # Either column of the left will do, and the lesser one is left out.
        self.told(3, settling(((0,), (1,)), ((1,), (0,)), ((0, 1), (2,))),
                  settling(((0,), (1,)), ((1,), (0,)), ((1,), (2,))))

    def test_several_columns_of_a_left_are_left_out(self):
        self.told(4, settling(((0, 1, 2), (3,)), ((2,), (3,))), settling(((2,), (3,))))
        self.told(4, settling(((0, 1, 2), (3,)), ((), (1,)), ((1,), (0,))),
                  settling(((2,), (3,)), ((), (1,)), ((), (0,))))

    def test_lefts_are_shortened_by_the_whole_book(self):
        # The second one shortens the first one, also though it says no more than the last two.
        self.told(4, settling(((0, 1), (2,)), ((0,), (2,)), ((0,), (3,)), ((3,), (2,))),
                  settling(((0,), (3,)), ((3,), (2,))))

    def test_the_first_ones_that_follow_are_left_out(self):
        self.told(3, ROUND, ROUND[3:])
        self.told(3, ROUND[::-1], ROUND[2::-1])
        self.told(3, settling(((0,), (2,)), ((0,), (1,)), ((1,), (2,))), settling(((0,), (1,)), ((1,), (2,))))

    def test_of_equal_ones_the_first_ones_are_left_out(self):
        self.told(3, settling(((0,), (1,)), ((1,), (2,)), ((0,), (1,))), settling(((1,), (2,)), ((0,), (1,))))
        self.told(2, settling(((0,), (1,))) * 4, settling(((0,), (1,))))

    def test_shortened_ones_that_become_equal(self):
        self.told(3, settling(((0, 1), (2,)), ((1,), (2,)), ((), (0,))), settling(((1,), (2,)), ((), (0,))))

    def test_against_the_words_of_the_document(self):
        chance = random.Random(35)
        for _ in range(400):
            width = chance.randint(1, 6)
            book = some_settling(chance, width, 8, chance.choice((0.2, 0.4, 0.6)))
            told = cover((width,), book)
            self.assertEqual(told, plain_cover(book))
            self.assertIsNone(check_book((width,), told))
            self.assertEqual(cover((width,), told), told)

    def test_all_small_books(self):
        sides = list(product(all_sets(range(2)), repeat=2))
        for one, other in product(sides, repeat=2):
            book = settling(one, other)
            self.assertEqual(cover((2,), book), plain_cover(book))
            self.assertEqual(synthesis((2,), book), plain_synthesis(2, book))

    def test_against_the_chase(self):
        chance = random.Random(350)
        for _ in range(40):
            book = some_settling(chance, 4, 5, 0.4)
            told = cover((4,), book)
            self.assertTrue(all(plain_follows((4,), book, one) for one in told))
            self.assertTrue(all(plain_follows((4,), told, one) for one in book))
            for at, (kind, table, left, right) in enumerate(told):
                self.assertFalse(plain_follows((4,), told[:at] + told[at + 1:], told[at]))
                for column in left:
                    fewer = tuple(c for c in left if c != column)
                    self.assertFalse(plain_follows((4,), book, (kind, table, fewer, right)))

    def test_a_large_book(self):
        book = settling(*((tuple(sorted({a % 7, a % 5})), tuple(range(7))) for a in range(20)))
        self.assertEqual(cover((7,), book), plain_cover(book))


class SynthesisTest(unittest.TestCase):
    def told(self, width, book, wanted):
        self.assertEqual(synthesis((width,), book), wanted)
        self.assertEqual(plain_synthesis(width, book), wanted)

    def test_a_table_of_one_column(self):
        self.told(1, (), ((0,),))
        self.told(1, settling(((), (0,))), ((0,),))
        self.told(1, settling(((0,), (0,))), ((0,),))

    def test_no_column_settles_another_one(self):
        self.told(3, (), ((0, 1, 2),))
        self.told(3, settling(((0, 1), (1,)), ((2,), ())), ((0, 1, 2),))

    def test_lefts_in_the_order_in_which_they_come_first(self):
        self.told(6, settling(((3,), (4,)), ((0,), (1,)), ((3,), (5,)), ((0, 3), (2,))),
                  ((3, 4, 5), (0, 1), (0, 2, 3)))
        self.told(4, settling(((2,), (3,)), ((0,), (1,)), ((0,), (2,))), ((2, 3), (0, 1, 2)))

    def test_the_order_is_that_of_the_cover(self):
        # The first one is left out of the cover, so its left comes first with the last one.
        self.told(4, settling(((0,), (2,)), ((1,), (2,)), ((0,), (1,)), ((0,), (3,))), ((1, 2), (0, 1, 3)))

    def test_least_key_behind_them(self):
        self.told(4, settling(((0,), (1,)), ((2,), (3,))), ((0, 1), (2, 3), (0, 2)))
        self.told(3, settling(((0,), (1,))), ((0, 1), (0, 2)))
        self.told(3, settling(((), (1,))), ((1,), (0, 2)))

    def test_no_key_if_one_of_the_sets_has_one(self):
        self.told(3, settling(((0,), (1,)), ((1,), (2,))), ((0, 1), (1, 2)))
        self.told(3, settling(((0, 1), (2,)), ((2,), (0,))), ((0, 1, 2),))
        # The key (0, 2) lies within the second set, which also has a column more.
        self.told(4, settling(((0,), (1,)), ((0, 2), (3,))), ((0, 1), (0, 2, 3)))

    def test_the_least_of_several_keys(self):
        # The keys are (0, 2) and (1, 2), and no set has one of them.
        self.told(3, settling(((0,), (1,)), ((1,), (0,))), ((0, 1), (0, 2)))
        # The keys are (3,), which is shorter, and (0, 2), but the first set has (3,).
        self.told(4, settling(((3,), (0, 1, 2)), ((0, 2), (3,))), ((0, 1, 2, 3),))
        # Of (1, 4) and (0, 2, 4), the one with fewer columns.
        book = settling(((1,), (0, 2)), ((0, 2), (1, 3)))
        self.assertEqual(keys((5,), book, 0), ((1, 4), (0, 2, 4)))
        self.told(5, book, ((0, 1, 2, 3), (1, 4)))

    def test_sets_within_unlike_ones(self):
        self.told(3, settling(((0, 1), (2,)), ((2,), (1,))), ((0, 1, 2),))
        self.told(4, settling(((2,), (1,)), ((0, 1), (2,)), ((0,), (3,))), ((0, 1, 2), (0, 3)))

    def test_of_equal_sets_the_first_one_stays(self):
        self.told(4, settling(((0,), (1,)), ((0,), (3,)), ((2,), (3,)), ((3,), (2,)), ((1,), (0,))),
                  ((0, 1, 3), (2, 3)))
        self.told(4, settling(((0,), (1,)), ((2,), (3,)), ((1,), (0,)), ((0, 2), (1, 3))),
                  ((0, 1), (2, 3), (0, 2)))

    def test_a_column_settled_by_nothing_at_all(self):
        self.told(2, settling(((), (0, 1))), ((0, 1),))
        self.told(4, settling(((), (3,)), ((0,), (1,))), ((3,), (0, 1), (0, 2)))

    def test_by_chance(self):
        chance = random.Random(53)
        for _ in range(300):
            width = chance.randint(1, 6)
            book = some_settling(chance, width, 7, chance.choice((0.2, 0.4, 0.6)))
            sets = synthesis((width,), book)
            self.assertEqual(sets, plain_synthesis(width, book))
            for _, _, left, right in cover((width,), book):
                self.assertTrue(any(set(left + right) <= set(one) for one in sets))

    def test_nothing_is_lost(self):
        chance = random.Random(530)
        for _ in range(60):
            width = chance.randint(1, 5)
            book = some_settling(chance, width, 5, 0.4)
            sets = synthesis((width,), book)
            self.assertEqual({c for one in sets for c in one}, set(range(width)))
            self.assertIsNone(loss((width,), book, 0, sets))


class SharingTest(unittest.TestCase):
    def test_arguments_stay_and_answers_are_the_same_again(self):
        for call in (cover, synthesis):
            book = ROUND + settling(((), ()), ((0, 1), (0, 1, 2)))
            kept = copy.deepcopy(book)
            first = call((3,), book)
            self.assertEqual(book, kept)
            self.assertIsInstance(first, tuple)
            self.assertTrue(all(isinstance(one, tuple) for one in first))
            self.assertEqual(call((3,), book), first)
