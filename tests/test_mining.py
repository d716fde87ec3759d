"""Point [30], with [23] and [34]: settled columns, found keys, held inclusions and dealt columns."""

import copy
import random
import unittest
from itertools import combinations, permutations, product

from norowstray.mining import dealt, found_keys, held_inclusions, settled
from tests.helpers import LONG
from tests.plain import all_sets, breaches, finest, minimal, some_set, some_store


def told_settled(width, rows):
    rows = tuple(sorted(set(rows)))
    found = []
    for column in range(width):
        lefts = all_sets([c for c in range(width) if c != column])
        found += [(left, column) for left in
                  minimal([left for left in lefts if not breaches((width,), (rows,), ("settles", 0, left, (column,)))])]
    return tuple(sorted(found, key=lambda pair: (len(pair[0]), pair)))


def told_keys(width, rows):
    rows = set(rows)
    return minimal([columns for columns in all_sets(range(width))
                    if all(any(one[c] != other[c] for c in columns) for one, other in combinations(rows, 2))])


def told_dealt(width, rows, columns):
    rows = tuple(sorted(set(rows)))
    others = [c for c in range(width) if c not in columns]
    return finest(others, lambda right: not breaches((width,), (rows,), ("deals", 0, columns, right)))


def told_inclusions(scheme, store, table, other):
    pairs = [(columns, others) for columns in all_sets(range(scheme[table])) if columns
             for others in permutations(range(scheme[other]), len(columns))]
    held = [(columns, others) for columns, others in pairs
            if not breaches(scheme, store, ("within", table, columns, other, others))]
    return tuple(sorted(held, key=lambda pair: (len(pair[0]), pair)))


def some_rows(chance, width, most, low, high):
    return tuple(tuple(chance.randint(low, high) for _ in range(width)) for _ in range(chance.randint(0, most)))


class SettledTest(unittest.TestCase):
    def test_ordinary(self):
        rows = ((1, 5, 0), (1, 5, 1), (2, 5, 0), (3, 6, 1))
        self.assertEqual(settled(3, rows), (((0,), 1),))
        self.assertEqual(settled(2, ((1, 2), (3, 4))), (((0,), 1), ((1,), 0)))

    def test_told_order(self):
        # Fewer columns first, then the left, and then the column.
        rows = ((0, 0, 0, 1), (0, 1, 1, 1), (1, 0, 1, 1), (1, 1, 0, 1))
        self.assertEqual(settled(4, rows), (((), 3), ((0, 1), 2), ((0, 2), 1), ((1, 2), 0)))
        rows = ((1, 1, 0), (2, 2, 0), (3, 3, 1))
        self.assertEqual(settled(3, rows), (((0,), 1), ((0,), 2), ((1,), 0), ((1,), 2)))

    def test_no_rows_and_one_row(self):
        for rows in ((), ((4, -1, 4),), ((4, -1, 4), (4, -1, 4))):
            self.assertEqual(settled(3, rows), (((), 0), ((), 1), ((), 2)))

    def test_all_values_of_a_column_are_the_same(self):
        self.assertEqual(settled(2, ((1, 7), (2, 7), (3, 7))), (((), 1),))
        self.assertEqual(settled(1, ((1,), (2,))), ())

    def test_any_order_and_rows_twice(self):
        rows = ((3, 6, 1), (1, 5, 1), (2, 5, 0), (1, 5, 0), (3, 6, 1))
        self.assertEqual(settled(3, rows), (((0,), 1),))

    def test_long_values_and_values_below_zero(self):
        rows = ((LONG, -LONG, 0), (LONG, -LONG, -1), (-LONG, -LONG, 0))
        self.assertEqual(settled(3, rows), (((), 1),))

    def test_by_chance_against_the_plain_words(self):
        chance = random.Random(61)
        for _ in range(400):
            width = chance.randint(1, 5)
            rows = some_rows(chance, width, 7, -1, 1)
            self.assertEqual(settled(width, rows), told_settled(width, rows))

    def test_many_rows(self):
        rows = tuple((k, k // 2, k % 2, k % 3, k % 5, 0, -k) for k in range(40))
        self.assertEqual(settled(7, rows), told_settled(7, rows))
        rows = tuple((k, k // 2, k % 2, 0) for k in range(200))
        self.assertEqual(settled(4, rows), (((), 3), ((0,), 1), ((0,), 2), ((1, 2), 0)))


class FoundKeysTest(unittest.TestCase):
    def test_ordinary(self):
        self.assertEqual(found_keys(3, ((1, 1, 0), (1, 2, 0), (2, 1, 0))), ((0, 1),))
        self.assertEqual(found_keys(3, ((1, 1, 5), (1, 2, 6), (2, 1, 7))), ((2,), (0, 1)))

    def test_no_rows_and_one_row(self):
        for rows in ((), ((1, 2),), ((1, 2), (1, 2))):
            self.assertEqual(found_keys(2, rows), ((),))

    def test_rows_that_are_there_twice(self):
        self.assertEqual(found_keys(2, ((1, 2), (3, 2), (1, 2))), ((0,),))
        self.assertEqual(found_keys(2, ((1, 2), (1, 3), (1, 2), (2, 2))), ((0, 1),))

    def test_long_values_and_values_below_zero(self):
        self.assertEqual(found_keys(2, ((-LONG, 1), (LONG, 1), (-1, 1))), ((0,),))

    def test_order(self):
        rows = ((0, 0, 0), (0, 1, 1), (1, 0, 1), (1, 1, 0))
        self.assertEqual(found_keys(3, rows), ((0, 1), (0, 2), (1, 2)))

    def test_by_chance_against_the_plain_words(self):
        chance = random.Random(62)
        for _ in range(500):
            width = chance.randint(1, 5)
            rows = some_rows(chance, width, 7, -1, 1)
            self.assertEqual(found_keys(width, rows), told_keys(width, rows))


class DealtTest(unittest.TestCase):
    def test_ordinary(self):
        rows = tuple((0, a, b, a) for a in (1, 2) for b in (3, 4)) + ((1, 9, 9, 9),)
        self.assertEqual(dealt(4, rows, (0,)), ((1, 3), (2,)))
        self.assertEqual(dealt(4, rows, (1,)), ((0,), (2,), (3,)))
        self.assertEqual(dealt(4, rows, ()), ((0, 1, 2, 3),))

    def test_no_columns_and_all_columns(self):
        self.assertEqual(dealt(2, ((1, 3), (1, 4), (2, 3), (2, 4)), ()), ((0,), (1,)))
        self.assertEqual(dealt(2, ((1, 3), (2, 4)), ()), ((0, 1),))
        self.assertEqual(dealt(2, ((1, 3), (2, 4)), (0, 1)), ())
        self.assertEqual(dealt(2, (), (0, 1)), ())

    def test_no_rows_and_one_row(self):
        self.assertEqual(dealt(3, (), ()), ((0,), (1,), (2,)))
        self.assertEqual(dealt(3, (), (1,)), ((0,), (2,)))
        self.assertEqual(dealt(3, ((5, 5, 5),), (1,)), ((0,), (2,)))

    def test_any_order_and_rows_twice(self):
        rows = ((2, 4), (1, 3), (2, 3), (1, 4), (2, 4))
        self.assertEqual(dealt(2, rows, ()), ((0,), (1,)))

    def test_long_values_and_values_below_zero(self):
        rows = ((LONG, -LONG, 0), (LONG, 0, 1), (LONG, -LONG, 1), (LONG, 0, 0))
        self.assertEqual(dealt(3, rows, (0,)), ((1,), (2,)))
        self.assertEqual(dealt(3, rows[:2], (0,)), ((1, 2),))

    def test_order_by_the_least_columns(self):
        rows = tuple((a, b, b, a, c) for a, b, c in product((0, 1), repeat=3))
        self.assertEqual(dealt(5, rows, ()), ((0, 3), (1, 2), (4,)))

    def test_by_chance_against_the_plain_words(self):
        chance = random.Random(63)
        parted = 0
        for _ in range(500):
            width = chance.randint(1, 4)
            rows = some_rows(chance, width, 9, 0, 1)
            columns = some_set(chance, width, 0.3)
            sets = dealt(width, rows, columns)
            self.assertEqual(sets, told_dealt(width, rows, columns))
            parted += len(set(rows)) > 3 and len(sets) > 1
        self.assertGreater(parted, 30)

    def test_many_rows(self):
        rows = tuple((0, a, b, c, a + b, 0, c) for a in range(5) for b in range(5) for c in range(8))
        self.assertEqual(dealt(7, rows, (0,)), ((1, 2, 4), (3, 6), (5,)))
        self.assertEqual(dealt(7, rows[1:], (0,)), ((1, 2, 3, 4, 6), (5,)))


class HeldInclusionsTest(unittest.TestCase):
    def test_ordinary(self):
        store = (((1, 2), (3, 2)), ((2, 1, 9), (2, 3, 9)))
        self.assertEqual(held_inclusions((2, 3), store, 0, 1), (((0,), (1,)), ((1,), (0,)), ((0, 1), (1, 0))))
        self.assertEqual(held_inclusions((2, 3), store, 1, 0), (((0,), (1,)), ((1,), (0,)), ((0, 1), (1, 0))))

    def test_fewer_columns_first_and_others_in_any_order(self):
        store = (((5, 5),), ((5, 5),))
        self.assertEqual(held_inclusions((2, 2), store, 0, 1),
                         (((0,), (0,)), ((0,), (1,)), ((1,), (0,)), ((1,), (1,)), ((0, 1), (0, 1)), ((0, 1), (1, 0))))

    def test_single_columns_are_held_and_both_together_are_not(self):
        store = (((1, 2), (3, 4)), ((1, 4), (3, 2)))
        self.assertEqual(held_inclusions((2, 2), store, 0, 1), (((0,), (0,)), ((1,), (1,))))

    def test_a_table_without_rows(self):
        self.assertEqual(held_inclusions((1, 2), ((), ((1, 2),)), 0, 1), (((0,), (0,)), ((0,), (1,))))
        self.assertEqual(held_inclusions((1, 2), ((), ()), 1, 0), (((0,), (0,)), ((1,), (0,))))
        self.assertEqual(held_inclusions((1, 2), ((), ((1, 2),)), 1, 0), ())

    def test_long_values_and_values_below_zero(self):
        store = (((LONG,), (-LONG,)), ((-LONG, 1), (LONG, 2)))
        self.assertEqual(held_inclusions((1, 2), store, 0, 1), (((0,), (0,)),))
        self.assertEqual(held_inclusions((1, 2), (((-1,),), ((-1, -1),)), 1, 0), (((0,), (0,)), ((1,), (0,))))

    def test_one_of_several_tables(self):
        store = (((1,),), ((2,),), ((1,), (2,)))
        self.assertEqual(held_inclusions((1, 1, 1), store, 1, 2), (((0,), (0,)),))
        self.assertEqual(held_inclusions((1, 1, 1), store, 2, 1), ())

    def test_by_chance_against_the_plain_words(self):
        chance = random.Random(64)
        longest = 0
        for _ in range(300):
            scheme = tuple(chance.randint(1, 4) for _ in range(2))
            store = some_store(chance, scheme, chance.choice((2, 12)), 0, 1)
            told = held_inclusions(scheme, store, 0, 1)
            self.assertEqual(told, told_inclusions(scheme, store, 0, 1))
            longest = max([longest] + [len(columns) for columns, _ in told])
        self.assertEqual(longest, 4)

    def test_as_many_as_there_can_be(self):
        rows = tuple(product((0, 1), repeat=7))
        self.assertEqual(len(held_inclusions((7, 7), ((), rows), 0, 1)), 130921)


class CallsTest(unittest.TestCase):
    def test_the_same_answer_again_and_arguments_as_they_were(self):
        rows = ((1, 2), (1, 3), (1, 2))
        store = (((1, 2),), ((1, 2),))
        before = copy.deepcopy((rows, store))
        for ask in (lambda r: settled(2, r), lambda r: found_keys(2, r), lambda r: dealt(2, r, ()),
                    lambda r: held_inclusions((2, 2), (tuple(sorted(set(r))), store[1]), 0, 1)):
            first = ask(rows)
            self.assertIsInstance(first, tuple)
            self.assertTrue(all(isinstance(one, tuple) for one in first))
            ask(((0, 0), (7, 7)))
            self.assertEqual(ask(rows), first)
        self.assertEqual((rows, store), before)
