"""Points [5], [7] and [10]: what a store keeps, and the least breaches."""

import random
import unittest
from itertools import combinations, product

from norowstray.completing import chase
from norowstray.holding import keeps, keeps_all, least_breach
from norowstray.schemes import says_nothing
from tests.helpers import LONG
from tests.plain import breaches, some_dependency, some_store


class LeastBreachTest(unittest.TestCase):
    def told(self, scheme, store, dependency, breach):
        self.assertEqual(least_breach(scheme, store, dependency), breach)
        self.assertIs(keeps(scheme, store, dependency), breach is None)

    def test_settles(self):
        rows = ((0, 5, 1), (1, 2, 9), (1, 2, 10), (2, 2, 1), (2, 3, 1), (2, 3, 2))
        self.told((3,), (rows,), ("settles", 0, (0, 1), (2,)), ((1, 2, 9), (1, 2, 10)))
        self.told((3,), (rows,), ("settles", 0, (0,), (1,)), ((2, 2, 1), (2, 3, 1)))
        self.told((3,), (rows,), ("settles", 0, (2,), (0,)), ((0, 5, 1), (2, 2, 1)))
        self.told((3,), (rows,), ("settles", 0, (), (0,)), ((0, 5, 1), (1, 2, 9)))
        self.told((3,), (rows,), ("settles", 0, (0, 2), (1,)), ((2, 2, 1), (2, 3, 1)))
        self.told((3,), (rows,), ("settles", 0, (0, 1, 2), (0,)), None)
        self.told((3,), (rows,), ("settles", 0, (1,), (1,)), None)
        self.told((3,), (rows[:2],), ("settles", 0, (0,), (1, 2)), None)

    def test_settles_with_a_later_row_in_an_earlier_group(self):
        # The group that is found first is not the one with the least first row.
        rows = ((0, 0), (1, 5), (1, 6), (2, 0))
        self.told((2,), (rows,), ("settles", 0, (1,), (0,)), ((0, 0), (2, 0)))
        rows = ((0, 7, 0), (1, 8, 0), (1, 8, 1), (2, 7, 1), (3, 7, 0))
        self.told((3,), (rows,), ("settles", 0, (1,), (2,)), ((0, 7, 0), (2, 7, 1)))

    def test_deals(self):
        rows = ((0, 1, 1), (0, 1, 2), (0, 2, 1), (1, 0, 0))
        self.told((3,), (rows,), ("deals", 0, (0,), (1,)), ((0, 2, 1), (0, 1, 2)))
        self.told((3,), (rows,), ("deals", 0, (0,), (2,)), ((0, 1, 2), (0, 2, 1)))
        self.told((3,), (rows,), ("deals", 0, (), (0,)), ((0, 1, 1), (1, 0, 0)))
        self.told((3,), (rows,), ("deals", 0, (0,), (0,)), None)
        self.told((3,), (rows,), ("deals", 0, (0,), (1, 2)), None)
        self.told((3,), (rows,), ("deals", 0, (), ()), None)
        self.told((3,), (rows,), ("deals", 0, (), (0, 1, 2)), None)
        self.told((3,), (rows + ((1, 1, 1),),), ("deals", 0, (0,), (0, 1)), ((0, 2, 1), (0, 1, 2)))
        full = ((0, 1, 1), (0, 1, 2), (0, 2, 1), (0, 2, 2), (1, 0, 0))
        self.told((3,), (full,), ("deals", 0, (0,), (1,)), None)

    def test_joins(self):
        rows = ((0, 1, 1), (0, 2, 0), (1, 1, 0))
        self.told((3,), (rows,), ("joins", 0, ((0, 1), (1, 2), (0, 2))), ((0, 1, 1), (1, 1, 0), (0, 2, 0)))
        self.told((3,), (rows + ((0, 1, 0),),), ("joins", 0, ((0, 1), (1, 2))), ((1, 1, 0), (0, 1, 1)))
        rows = ((0, 1, 0), (0, 1, 1), (0, 2, 0), (1, 1, 0))
        self.told((3,), (rows,), ("joins", 0, ((0, 1), (1, 2), (0, 2))), None)

    def test_joins_with_one_part(self):
        self.told((2,), (((0, 1), (1, 0)),), ("joins", 0, ((0, 1),)), None)

    def test_joins_with_a_part_of_all_columns(self):
        self.told((2,), (((0, 1), (1, 0)),), ("joins", 0, ((0,), (0, 1), (1,))), None)

    def test_joins_with_equal_parts_and_parts_within_others(self):
        rows = ((0, 0, 1), (1, 0, 0))
        parts = ((0, 1), (0, 1), (1, 2), (2,))
        self.told((3,), (rows,), ("joins", 0, parts), ((0, 0, 1), (0, 0, 1), (1, 0, 0), (1, 0, 0)))
        parts = ((1,), (0, 1), (1, 2))
        self.told((3,), (rows,), ("joins", 0, parts), ((0, 0, 1), (0, 0, 1), (1, 0, 0)))
        parts = ((2,), (0, 1), (1,), (1, 2), (1, 2))
        first = (0, 0, 1)
        self.told((3,), (rows,), ("joins", 0, parts), (first, (1, 0, 0), first, first, first))

    def test_joins_with_very_many_equal_parts(self):
        rows = ((0, 0, 1), (1, 0, 0))
        parts = ((0, 1),) * 1500 + ((1, 2),) * 1500
        self.told((3,), (rows,), ("joins", 0, parts), ((0, 0, 1),) * 1500 + ((1, 0, 0),) * 1500)

    def test_joins_of_single_columns(self):
        rows = ((0, 0, 0), (1, 1, 1))
        self.told((3,), (rows,), ("joins", 0, ((0,), (1,), (2,))), (rows[0], rows[0], rows[1]))
        self.told((3,), (rows,), ("joins", 0, ((2,), (1,), (0,))), (rows[0], rows[0], rows[1]))
        cube = tuple(product(range(2), repeat=3))
        self.told((3,), (cube,), ("joins", 0, ((0,), (1,), (2,))), None)
        # One row alone is missing: 0, 1, 1.
        rows = cube[:3] + cube[4:]
        self.told((3,), (rows,), ("joins", 0, ((0,), (1,), (2,))), ((0, 0, 0), (0, 1, 0), (0, 0, 1)))

    def test_within(self):
        scheme = (2, 3)
        store = (((1, 2), (2, 1), (3, 3)), ((0, 1, 2), (0, 3, 3)))
        self.told(scheme, store, ("within", 0, (0, 1), 1, (1, 2)), ((2, 1),))
        self.told(scheme, store, ("within", 0, (0, 1), 1, (2, 1)), ((1, 2),))
        self.told(scheme, store, ("within", 0, (1, 0), 1, (2, 1)), ((2, 1),))
        self.told(scheme, store, ("within", 0, (1,), 1, (2,)), ((2, 1),))
        self.told(scheme, store, ("within", 1, (2,), 0, (0,)), None)
        self.told(scheme, store, ("within", 1, (0,), 0, (0,)), ((0, 1, 2),))
        self.told(scheme, (store[0], ()), ("within", 0, (0,), 1, (0,)), ((1, 2),))
        self.told(scheme, ((), store[1]), ("within", 0, (0,), 1, (0,)), None)

    def test_long_and_unknown_values(self):
        rows = ((-LONG, 1), (-LONG, LONG), (LONG, 3))
        self.told((2,), (rows,), ("settles", 0, (0,), (1,)), (rows[0], rows[1]))
        self.told((2,), (rows,), ("deals", 0, (), (0,)), (rows[0], rows[2]))
        self.told((2,), (rows,), ("settles", 0, (1,), (0,)), None)

    def test_the_empty_store_keeps_every_dependency(self):
        chance = random.Random(1)
        for _ in range(200):
            scheme = (3, 2, 4)
            dependency = some_dependency(chance, scheme, [0, 1, 2])
            self.told(scheme, ((), (), ()), dependency, None)

    def test_all_small_stores_of_one_table(self):
        rows = tuple(product(range(2), repeat=3))
        wishes = (("settles", 0, (0,), (1, 2)), ("deals", 0, (1,), (0,)), ("deals", 0, (), (0, 2)),
                  ("joins", 0, ((0, 1), (1, 2), (0, 2))), ("joins", 0, ((0,), (1, 2))))
        for many in range(9):
            for chosen in combinations(rows, many):
                for wish in wishes:
                    found = breaches((3,), (chosen,), wish)
                    self.told((3,), (chosen,), wish, min(found) if found else None)

    def test_by_chance_against_the_plain_words(self):
        chance = random.Random(10)
        for _ in range(1500):
            scheme = tuple(chance.randint(1, 4) for _ in range(chance.randint(1, 3)))
            order = list(range(len(scheme)))
            chance.shuffle(order)
            dependency = some_dependency(chance, scheme, order)
            store = some_store(chance, scheme, 6, -2, 2)
            found = breaches(scheme, store, dependency)
            self.told(scheme, store, dependency, min(found) if found else None)
            if says_nothing(scheme, dependency):
                self.assertEqual(found, [])

    def test_what_nearly_says_nothing_is_broken_by_some_store(self):
        chance = random.Random(11)
        rows = tuple(product(range(2), repeat=3))
        for _ in range(200):
            dependency = some_dependency(chance, (3,), [0])
            broken = any(least_breach((3,), (chosen,), dependency) for chosen in combinations(rows, 2))
            broken = broken or any(least_breach((3,), (chosen,), dependency) for chosen in combinations(rows, 3))
            self.assertEqual(broken, not says_nothing((3,), dependency), dependency)


class KeepsAllTest(unittest.TestCase):
    def test_empty_book_and_empty_store(self):
        self.assertIs(keeps_all((2,), (((0, 1), (0, 2)),), ()), True)
        self.assertIs(keeps_all((2, 1), ((), ()), (("settles", 0, (), (0, 1)), ("within", 0, (0,), 1, (0,)))), True)

    def test_every_dependency_counts(self):
        store = (((0, 1), (0, 2)),)
        good, bad = ("settles", 0, (1,), (0,)), ("settles", 0, (0,), (1,))
        self.assertIs(keeps_all((2,), store, (good, good)), True)
        for book in ((bad,), (good, bad), (bad, good), (good, bad, good)):
            self.assertIs(keeps_all((2,), store, book), False)

    def test_large_results_of_the_package(self):
        book = (("joins", 0, ((0,), (1,), (2,))),)
        store = (tuple((k, 100 + k, 200 + k) for k in range(20)),)
        large = chase((3,), book, store)
        self.assertEqual(len(large[0]), 8000)
        self.assertIs(keeps_all((3,), large, book), True)
        self.assertIs(keeps((3,), large, ("joins", 0, ((0, 1), (1, 2), (0, 2)))), True)
        self.assertIs(keeps((3,), (large[0][:-1],), book[0]), False)
        self.assertEqual(least_breach((3,), large, ("settles", 0, (0, 1), (2,))), large[0][:2])
