"""Point [27]: exact tables."""

import copy
import random
import unittest
from itertools import product

from norowstray.exact import exact_table
from norowstray.following import follows
from norowstray.holding import keeps
from norowstray.schemes import check_store
from tests.plain import all_sets, breaches, plain_follows, some_set


def some_exact_book(chance, width, most):
    """A book of "settles" and "deals" alone, none with an empty left."""
    return tuple((chance.choice(("settles", "deals")), 0, some_set(chance, width) or (chance.randrange(width),),
                  some_set(chance, width)) for _ in range(chance.randint(0, most)))


class ExactTest(unittest.TestCase):
    def told(self, width, book, asked=follows, kept=None):
        rows = exact_table((width,), book)
        self.assertIsInstance(rows, tuple)
        # In ascending order, without duplicates, each row as wide as the table.
        self.assertIsNone(check_store((width,), (rows,)))
        self.assertTrue(all(value >= 0 for row in rows for value in row))
        sets = all_sets(range(width))
        for kind, left, right in product(("settles", "deals"), sets, sets):
            dependency = (kind, 0, left, right)
            held = keeps((width,), (rows,), dependency) if kept is None else kept((width,), (rows,), dependency)
            self.assertIs(held, asked((width,), book, dependency), (book, dependency))

    def test_the_empty_book(self):
        for width in (1, 2, 3, 4):
            self.told(width, ())

    def test_dependencies_that_say_nothing(self):
        self.told(1, (("settles", 0, (0,), (0,)), ("deals", 0, (0,), ())))
        self.told(2, (("settles", 0, (0, 1), (1,)), ("deals", 0, (0,), (1,))))
        self.told(3, (("deals", 0, (0, 1), (2,)), ("settles", 0, (2,), ()), ("deals", 0, (1,), (1,))))

    def test_ordinary_books(self):
        self.told(2, (("settles", 0, (0,), (1,)),))
        self.told(2, (("settles", 0, (0,), (1,)), ("settles", 0, (1,), (0,))))
        self.told(3, (("deals", 0, (0,), (1,)),))
        self.told(3, (("settles", 0, (0,), (1, 2)), ("settles", 0, (2,), (0,)), ("settles", 0, (1,), (0,))))
        self.told(4, (("deals", 0, (0,), (1,)), ("settles", 0, (1,), (2,))))
        self.told(4, (("deals", 0, (0, 1), (2,)), ("deals", 0, (3,), (0, 3)), ("settles", 0, (1, 2), (3,))))

    def test_by_chance(self):
        chance = random.Random(41)
        for _ in range(40):
            width = chance.randint(1, 4)
            self.told(width, some_exact_book(chance, width, 4))

    def test_by_chance_against_the_plain_words(self):
        chance = random.Random(42)
        for _ in range(25):
            width = chance.randint(1, 3)
            self.told(width, some_exact_book(chance, width, 3), plain_follows,
                      lambda scheme, store, dependency: not breaches(scheme, store, dependency))

    def test_the_same_answer_again_and_arguments_as_they_were(self):
        book = (("deals", 0, (0,), (1,)), ("settles", 0, (1,), (2,)))
        before = copy.deepcopy(book)
        first = exact_table((4,), book)
        exact_table((4,), (("settles", 0, (3,), (0,)),))
        self.assertEqual(exact_table((4,), book), first)
        self.assertEqual(book, before)
