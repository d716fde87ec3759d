"""Points [22] and [23]: closures, keys and bases."""

import copy
import random
import unittest

from norowstray.following import follows
from norowstray.keys import basis, closure, keys
from tests.plain import all_sets, finest, minimal, plain_follows, some_book, some_set

AROUND = ("joins", 0, ((0, 1), (1, 2), (0, 2)))


def told_closure(scheme, book, table, columns, asked=follows):
    return tuple(c for c in range(scheme[table]) if asked(scheme, book, ("settles", table, columns, (c,))))


def told_keys(scheme, book, table, asked=follows):
    every = tuple(range(scheme[table]))
    return minimal([one for one in all_sets(every) if asked(scheme, book, ("settles", table, one, every))])


def told_basis(scheme, book, table, columns, asked=follows):
    others = [c for c in range(scheme[table]) if c not in columns]
    return finest(others, lambda right: asked(scheme, book, ("deals", table, columns, right)))


class ClosureTest(unittest.TestCase):
    def test_settles(self):
        book = (("settles", 0, (0,), (1,)), ("settles", 0, (1, 2), (3,)))
        for columns, told in (((), ()), ((0,), (0, 1)), ((2,), (2,)), ((0, 2), (0, 1, 2, 3)), ((1, 3), (1, 3)),
                              ((0, 1, 2, 3), (0, 1, 2, 3))):
            self.assertEqual(closure((4,), book, 0, columns), told)

    def test_no_columns(self):
        self.assertEqual(closure((3,), (("settles", 0, (), (1,)), ("settles", 0, (1,), (0,))), 0, ()), (0, 1))
        self.assertEqual(closure((3,), (), 0, ()), ())

    def test_all_columns(self):
        self.assertEqual(closure((3,), (), 0, (0, 1, 2)), (0, 1, 2))
        self.assertEqual(closure((1,), (), 0, (0,)), (0,))

    def test_dealt_and_settled_columns(self):
        book = (("deals", 0, (0,), (1,)), ("settles", 0, (1,), (2,)))
        self.assertEqual(closure((4,), book, 0, (0,)), (0, 2))
        self.assertEqual(closure((4,), book[:1], 0, (0,)), (0,))

    def test_join_dependencies(self):
        book = (AROUND, ("settles", 0, (1, 2), (0,)))
        self.assertEqual(closure((3,), book, 0, (1,)), (1,))
        book = (("joins", 0, ((0, 1), (1, 2))), ("settles", 0, (2,), (0,)))
        self.assertEqual(closure((3,), book, 0, (1,)), (0, 1))
        self.assertEqual(closure((3,), book[1:], 0, (1,)), (1,))

    def test_other_tables(self):
        book = (("within", 0, (0, 2), 1, (1, 0)), ("settles", 1, (1,), (0,)), ("settles", 1, (0,), (2,)))
        self.assertEqual(closure((3, 3), book, 0, (0,)), (0, 2))
        self.assertEqual(closure((3, 3), book, 0, (2,)), (2,))
        self.assertEqual(closure((3, 3), book, 1, (1,)), (0, 1, 2))
        self.assertEqual(closure((3, 3), book[1:], 0, (0,)), (0,))

    def test_a_table_in_between(self):
        book = (("within", 0, (0, 1), 1, (0, 1)), ("within", 1, (0, 1), 2, (0, 1)), ("settles", 2, (0,), (1,)))
        self.assertEqual(closure((2, 3, 2), book, 0, (0,)), (0, 1))
        self.assertEqual(closure((2, 3, 2), book, 1, (0,)), (0, 1))
        self.assertEqual(closure((2, 3, 2), book[1:], 0, (0,)), (0,))

    def test_joins_of_other_tables(self):
        # The other table deals what it is given, and then settles it.
        book = (("within", 0, (0, 1, 2), 1, (0, 1, 2)), ("deals", 1, (0,), (1,)), ("settles", 1, (1,), (2,)))
        self.assertEqual(closure((3, 3), book, 0, (0,)), (0, 2))
        self.assertEqual(closure((3, 3), book[:1] + book[2:], 0, (0,)), (0,))


class KeysTest(unittest.TestCase):
    def test_order_and_none_within_another(self):
        book = (("settles", 0, (3,), (0, 1, 2)), ("settles", 0, (1, 2), (3,)), ("settles", 0, (0, 2), (1,)))
        self.assertEqual(keys((4,), book, 0), ((3,), (0, 2), (1, 2)))

    def test_all_columns_are_the_key(self):
        self.assertEqual(keys((3,), (), 0), ((0, 1, 2),))
        self.assertEqual(keys((1,), (), 0), ((0,),))
        self.assertEqual(keys((3,), (("deals", 0, (0,), (1,)),), 0), ((0, 1, 2),))

    def test_a_key_without_columns(self):
        self.assertEqual(keys((2,), (("settles", 0, (), (0, 1)),), 0), ((),))
        self.assertEqual(keys((1, 2), (("settles", 1, (), (0,)), ("settles", 1, (0,), (1,))), 1), ((),))

    def test_what_is_told_elsewhere_counts(self):
        book = (("within", 1, (0, 1), 0, (1, 0)), ("settles", 0, (0,), (1,)))
        self.assertEqual(keys((2, 2), book, 1), ((1,),))
        self.assertEqual(keys((2, 2), book, 0), ((0,),))
        self.assertEqual(keys((2, 2), book[1:], 1), ((0, 1),))
        joined = (("joins", 0, ((0, 1), (1, 2))), ("settles", 0, (2,), (0,)), ("settles", 0, (0,), (2,)))
        self.assertEqual(keys((3,), joined, 0), ((1,),))
        self.assertEqual(keys((3,), joined[1:], 0), ((0, 1), (1, 2)))

    def test_many_keys(self):
        book = tuple(("settles", 0, (c, (c + 1) % 7), tuple(sorted({0, 1, 2, 3, 4, 5, 6} - {c, (c + 1) % 7})))
                     for c in range(7))
        self.assertEqual(keys((7,), book, 0), tuple(sorted(tuple(sorted((c, (c + 1) % 7))) for c in range(7))))


class BasisTest(unittest.TestCase):
    def test_deals(self):
        book = (("deals", 0, (0,), (1,)), ("deals", 0, (0,), (2, 3)))
        self.assertEqual(basis((5,), book, 0, (0,)), ((1,), (2, 3), (4,)))
        self.assertEqual(basis((5,), book, 0, (1,)), ((0, 2, 3, 4),))
        self.assertEqual(basis((5,), book, 0, (0, 2)), ((1,), (3,), (4,)))

    def test_sets_that_share(self):
        book = (("deals", 0, (0,), (1, 2)), ("deals", 0, (0,), (2, 3)))
        self.assertEqual(basis((5,), book, 0, (0,)), ((1,), (2,), (3,), (4,)))

    def test_order_by_the_least_columns(self):
        book = (("deals", 0, (), (1, 5)), ("deals", 0, (), (2, 4)))
        self.assertEqual(basis((7,), book, 0, ()), ((0, 3, 6), (1, 5), (2, 4)))

    def test_no_columns_and_all_columns(self):
        self.assertEqual(basis((3,), (), 0, ()), ((0, 1, 2),))
        self.assertEqual(basis((3,), (("deals", 0, (), (1,)),), 0, ()), ((0, 2), (1,)))
        self.assertEqual(basis((3,), (), 0, (0, 1, 2)), ())
        self.assertEqual(basis((1,), (), 0, (0,)), ())
        self.assertEqual(basis((1,), (), 0, ()), ((0,),))

    def test_settled_columns_are_sets_by_themselves(self):
        book = (("settles", 0, (0,), (2, 3)),)
        self.assertEqual(basis((5,), book, 0, (0,)), ((1, 4), (2,), (3,)))
        self.assertEqual(basis((5,), book, 0, (0, 3)), ((1, 4), (2,)))
        self.assertEqual(basis((2,), (("settles", 0, (), (0, 1)),), 0, ()), ((0,), (1,)))
        mixed = (("deals", 0, (0,), (1, 2)), ("settles", 0, (1,), (4,)))
        self.assertEqual(basis((5,), mixed, 0, (0,)), ((1, 2), (3,), (4,)))

    def test_right_has_columns_of_left(self):
        self.assertEqual(basis((4,), (("deals", 0, (0, 1), (0, 2)),), 0, (0, 1)), ((2,), (3,)))
        self.assertEqual(basis((4,), (("deals", 0, (0, 1), (0, 1)),), 0, (0, 1)), ((2, 3),))

    def test_join_dependencies(self):
        book = (("joins", 0, ((0, 1), (1, 2, 3), (3, 4))),)
        self.assertEqual(basis((5,), book, 0, (1,)), ((0,), (2, 3, 4)))
        self.assertEqual(basis((5,), book, 0, (3,)), ((0, 1, 2), (4,)))
        self.assertEqual(basis((5,), book, 0, (1, 3)), ((0,), (2,), (4,)))
        self.assertEqual(basis((3,), (AROUND,), 0, (1,)), ((0, 2),))

    def test_other_tables(self):
        book = (("within", 0, (0, 2), 1, (0, 1)), ("settles", 1, (0,), (1,)))
        self.assertEqual(basis((4, 2), book, 0, (0,)), ((1, 3), (2,)))
        # What another table deals is not dealt here.
        book = (("within", 0, (0, 1, 2), 1, (0, 1, 2)), ("deals", 1, (0,), (1,)))
        self.assertEqual(basis((3, 3), book, 0, (0,)), ((1, 2),))
        self.assertEqual(basis((3, 3), book, 1, (0,)), ((1,), (2,)))


class ByChanceTest(unittest.TestCase):
    def test_as_following_tells(self):
        chance = random.Random(22)
        open_sets = parted_sets = 0
        for _ in range(500):
            scheme = tuple(chance.randint(1, 5) for _ in range(chance.randint(1, 4)))
            book = some_book(chance, scheme, 6)
            table = chance.randrange(len(scheme))
            self.assertEqual(keys(scheme, book, table), told_keys(scheme, book, table))
            for columns in chance.sample(all_sets(range(scheme[table])), 2):
                closed = closure(scheme, book, table, columns)
                self.assertEqual(closed, told_closure(scheme, book, table, columns))
                sets = basis(scheme, book, table, columns)
                self.assertEqual(sets, told_basis(scheme, book, table, columns), (scheme, book, table, columns))
                open_sets += len(columns) < len(closed) < scheme[table]
                parted_sets += any(len(one) > 1 for one in sets) and len(sets) > 1
        self.assertGreater(open_sets, 20)
        self.assertGreater(parted_sets, 8)

    def test_as_the_plain_words_tell(self):
        chance = random.Random(23)
        for _ in range(300):
            scheme = tuple(chance.randint(1, 3) for _ in range(chance.randint(1, 3)))
            book = some_book(chance, scheme, 4)
            table = chance.randrange(len(scheme))
            columns = some_set(chance, scheme[table])
            self.assertEqual(keys(scheme, book, table), told_keys(scheme, book, table, plain_follows))
            self.assertEqual(closure(scheme, book, table, columns),
                             told_closure(scheme, book, table, columns, plain_follows))
            self.assertEqual(basis(scheme, book, table, columns),
                             told_basis(scheme, book, table, columns, plain_follows))

    def test_dealt_is_what_is_made_of_sets_of_the_basis(self):
        chance = random.Random(24)
        for _ in range(60):
            width = chance.randint(1, 5)
            book = some_book(chance, (width,), 4)
            left, right = some_set(chance, width), some_set(chance, width, 0.6)
            sets = basis((width,), book, 0, left)
            outside = {c for c in right if c not in left}
            whole = all(set(one) <= outside or not set(one) & outside for one in sets)
            self.assertIs(follows((width,), book, ("deals", 0, left, right)), whole)


class CallsTest(unittest.TestCase):
    def test_the_same_answer_again_and_arguments_as_they_were(self):
        scheme = (4, 3)
        book = (("deals", 0, (0,), (1,)), ("settles", 0, (1,), (2,)), ("within", 0, (0, 3), 1, (0, 1)))
        other = (("settles", 0, (3,), (0,)),)
        before = copy.deepcopy((scheme, book))
        for ask in (lambda b: closure(scheme, b, 0, (0,)), lambda b: keys(scheme, b, 0),
                    lambda b: basis(scheme, b, 0, (0,))):
            first = ask(book)
            self.assertIsInstance(first, tuple)
            self.assertNotEqual(ask(other), first)
            self.assertEqual(ask(book), first)
        self.assertEqual((scheme, book), before)

    def test_at_the_bounds(self):
        scheme = (7,) * 6
        book = (tuple(("within", t, tuple(range(7)), t + 1, tuple(range(7))) for t in range(5))
                + tuple(("deals", 5, (c,), (c + 1,)) for c in range(6))
                + tuple(("settles", 5, (c, c + 1), (c + 2,)) for c in range(5))
                + (("deals", 0, (0,), (1, 2)), ("joins", 1, ((0, 1, 2), (2, 3, 4), (4, 5, 6))),
                   ("deals", 2, (), (3,)), ("settles", 0, (6,), (0,))))
        self.assertEqual(len(book), 20)
        self.assertEqual(keys(scheme, book, 0), told_keys(scheme, book, 0))
        self.assertEqual(basis(scheme, book, 5, (0,)), told_basis(scheme, book, 5, (0,)))
