"""Points [24], [25] and [26], with [12]: the fourth normal form, redundant cells and partings."""

import copy
import random
import unittest
from itertools import product

from norowstray.following import follows
from norowstray.forms import form_breach, is_redundant, parted, redundant_cell
from norowstray.holding import keeps_all
from norowstray.joining import loss
from norowstray.keys import basis, closure
from norowstray.schemes import check_store, says_nothing
from norowstray.shapes import largest_sets
from tests.helpers import LONG
from tests.plain import all_sets, breaches, some_book, some_set, some_store

AROUND = ("joins", 0, ((0, 1), (1, 2), (0, 2)))


def in_normal_form(scheme, book, table):
    """By the first words of point [24]."""
    sets = all_sets(range(scheme[table]))
    for kind, left, right in product(("settles", "deals"), sets, sets):
        dependency = (kind, table, left, right)
        if not says_nothing(scheme, dependency) and follows(scheme, book, dependency):
            if not follows(scheme, book, ("settles", table, left, tuple(range(scheme[table])))):
                return False
    return True


def told_breach(scheme, book, table):
    """The least breach of the form, by the words of point [24]."""
    for left in all_sets(range(scheme[table])):
        rights = [right for right in basis(scheme, book, table, left)
                  if not says_nothing(scheme, ("deals", table, left, right))]
        if rights and len(closure(scheme, book, table, left)) < scheme[table]:
            return left, min(rights)
    return None


def plainly_redundant(scheme, book, store, table, row, column):
    """By the words of point [25], with all values of the store and two that are in none of it."""
    values = {v for rows in store for one in rows for v in one}
    for value in values | {max(values) + 1, max(values) + 2, min(values) - 1}:
        if value != row[column]:
            rows = {one for one in store[table] if one != row} | {row[:column] + (value,) + row[column + 1:]}
            other = store[:table] + (tuple(sorted(rows)),) + store[table + 1:]
            if not any(breaches(scheme, other, one) for one in book):
                return False
    return True


def told_parting(scheme, book, table):
    """By the words of point [26]."""
    def parting(s):
        for left in all_sets(s):
            if set(s) <= set(closure(scheme, book, table, left)):
                continue
            rights = [tuple(c for c in one if c in s) for one in basis(scheme, book, table, left)]
            rights = [right for right in rights if right and set(left + right) != set(s)]
            if rights:
                right = min(rights)
                return (parting(tuple(sorted(left + right)))
                        + parting(tuple(c for c in s if c not in right)))
        return [s]
    sets = parting(tuple(range(scheme[table])))
    sets = [one for one in sets if not any(set(one) < set(other) for other in sets)]
    return tuple(dict.fromkeys(sets))


def some_local_book(chance, width, most):
    """A book of one table of "settles" and "deals" alone."""
    return tuple((chance.choice(("settles", "deals")), 0, some_set(chance, width), some_set(chance, width))
                 for _ in range(chance.randint(0, most)))


class FormBreachTest(unittest.TestCase):
    def test_in_normal_form(self):
        self.assertIsNone(form_breach((3,), (), 0))
        self.assertIsNone(form_breach((3,), (("settles", 0, (0,), (1, 2)),), 0))
        self.assertIsNone(form_breach((3,), (("settles", 0, (), (0, 1, 2)),), 0))
        self.assertIsNone(form_breach((3,), (("settles", 0, (0, 1), (2,)), ("settles", 0, (2,), (0, 1))), 0))
        self.assertIsNone(form_breach((2,), (("deals", 0, (0,), (1,)),), 0))

    def test_settles(self):
        self.assertEqual(form_breach((3,), (("settles", 0, (1,), (2,)),), 0), ((1,), (0,)))
        self.assertEqual(form_breach((3,), (("settles", 0, (0, 1), (2,)), ("settles", 0, (2,), (0,))), 0), ((2,), (0,)))

    def test_deals(self):
        self.assertEqual(form_breach((3,), (("deals", 0, (2,), (1,)),), 0), ((2,), (0,)))
        self.assertEqual(form_breach((4,), (("deals", 0, (0,), (2,)),), 0), ((0,), (1, 3)))

    def test_the_empty_left_comes_first(self):
        book = (("settles", 0, (0,), (1,)), ("deals", 0, (), (2,)))
        self.assertEqual(form_breach((3,), book, 0), ((), (0, 1)))
        self.assertEqual(form_breach((2,), (("settles", 0, (), (1,)),), 0), ((), (0,)))

    def test_fewest_columns_first_and_then_the_least(self):
        book = (("deals", 0, (0, 1), (2,)), ("deals", 0, (3,), (1,)))
        self.assertEqual(form_breach((5,), book, 0), ((3,), (0, 2, 4)))
        self.assertEqual(form_breach((5,), book[:1], 0), ((0, 1), (2,)))
        both = (("settles", 0, (2,), (3,)), ("settles", 0, (1,), (0,)))
        self.assertEqual(form_breach((5,), both, 0), ((1,), (0,)))

    def test_a_basis_of_one_set_says_nothing(self):
        self.assertIsNone(form_breach((3,), (("deals", 0, (0,), (1, 2)), ("deals", 0, (1,), ())), 0))
        self.assertIsNone(form_breach((3,), (AROUND,), 0))

    def test_a_left_that_settles_all_is_no_breach(self):
        book = (("settles", 0, (0,), (1, 2, 3)), ("deals", 0, (0, 1), (2,)))
        self.assertIsNone(form_breach((4,), book, 0))

    def test_a_table_of_one_column(self):
        for book in ((), (("settles", 0, (), (0,)),), (("deals", 0, (), (0,)),)):
            self.assertIsNone(form_breach((1,), book, 0))

    def test_the_second_table(self):
        book = (("settles", 1, (1,), (2,)), ("deals", 0, (), (0,)))
        self.assertEqual(form_breach((2, 3), book, 1), ((1,), (0,)))
        self.assertEqual(form_breach((2, 3), book, 0), ((), (0,)))
        self.assertIsNone(form_breach((2, 3), book[:1], 0))

    def test_what_is_told_elsewhere_counts(self):
        book = (("within", 1, (0, 1, 2), 0, (0, 1, 2)), ("settles", 0, (0,), (1,)))
        self.assertEqual(form_breach((3, 3), book, 1), ((0,), (1,)))
        self.assertIsNone(form_breach((3, 3), book[:1], 1))
        self.assertEqual(form_breach((3,), (("joins", 0, ((0, 1), (1, 2))),), 0), ((1,), (0,)))

    def test_by_chance_against_the_plain_words(self):
        chance = random.Random(31)
        seen = {True: 0, False: 0}
        for _ in range(150):
            scheme = tuple(chance.randint(1, 4) for _ in range(chance.randint(1, 3)))
            book = some_book(chance, scheme, 4)
            table = chance.randrange(len(scheme))
            breach = form_breach(scheme, book, table)
            self.assertEqual(breach, told_breach(scheme, book, table))
            self.assertIs(breach is None, in_normal_form(scheme, book, table), (scheme, book, table))
            seen[breach is None] += 1
        self.assertGreater(min(seen.values()), 30)


class IsRedundantTest(unittest.TestCase):
    def told(self, scheme, book, store, table, row, columns):
        found = tuple(c for c in range(scheme[table]) if is_redundant(scheme, book, store, table, row, c))
        self.assertEqual(found, columns)
        for c in range(scheme[table]):
            self.assertIs(plainly_redundant(scheme, book, store, table, row, c), c in columns)

    def test_settles(self):
        book = (("settles", 0, (0,), (1,)),)
        store = (((1, 5, 0), (1, 5, 1), (2, 5, 0)),)
        self.told((3,), book, store, 0, (1, 5, 0), (1,))
        self.told((3,), book, store, 0, (2, 5, 0), ())
        self.told((3,), (), store, 0, (1, 5, 0), ())

    def test_answer_is_a_bool(self):
        book = (("settles", 0, (0,), (1,)),)
        store = (((1, 5, 0), (1, 5, 1)),)
        self.assertIs(is_redundant((3,), book, store, 0, (1, 5, 0), 1), True)
        self.assertIs(is_redundant((3,), book, store, 0, (1, 5, 0), 2), False)

    def test_deals(self):
        rows = tuple((0, a, b) for a in (1, 2) for b in (3, 4))
        self.told((3,), (("deals", 0, (0,), (1,)),), (rows,), 0, (0, 1, 3), (0, 1, 2))
        # Here the four rows may become three, as one of the dealt sides has one value alone.
        self.told((3,), (("deals", 0, (0,), (1,)),), (rows[:1],), 0, (0, 1, 3), ())

    def test_joins(self):
        rows = ((0, 0, 0), (0, 0, 1), (0, 1, 0), (1, 0, 0))
        self.told((3,), (AROUND,), (rows,), 0, (0, 0, 0), (0, 1, 2))

    def test_only_a_value_of_another_place_may_do(self):
        # Each row of the table is within the other one, which has one more value: 7 alone will do.
        scheme = (1, 2)
        book = (("within", 0, (0,), 1, (1,)),)
        store = (((5,),), ((0, 5), (9, 7)))
        self.told(scheme, book, store, 0, (5,), ())
        self.told(scheme, book, (((5,),), ((0, 5),)), 0, (5,), (0,))

    def test_an_inclusion_leaves_values_that_a_left_does_not(self):
        scheme = (2, 1)
        book = (("within", 0, (0,), 1, (0,)), ("settles", 0, (0,), (1,)))
        store = (((5, 1), (6, 2)), ((5,), (6,)))
        self.told(scheme, book, store, 0, (5, 1), (0,))
        self.told(scheme, book, (store[0], ((5,), (6,), (7,))), 0, (5, 1), ())
        self.told(scheme, book[:1], store, 0, (5, 1), ())

    def test_inclusions_from_other_tables(self):
        scheme = (1, 2)
        book = (("within", 0, (0,), 1, (1,)),)
        store = (((5,),), ((0, 5), (9, 7)))
        self.told(scheme, book, store, 1, (0, 5), (1,))
        self.told(scheme, book, store, 1, (9, 7), ())
        # Another value lets the row still be there, in another row.
        self.told(scheme, book, (((5,),), ((0, 5), (9, 5))), 1, (0, 5), ())

    def test_both_ways_through_one_column(self):
        # The column is between two others, one value of which it may take.
        scheme = (1, 2, 1)
        book = (("within", 0, (0,), 1, (0,)), ("within", 1, (0,), 2, (0,)), ("settles", 1, (1,), (0,)))
        store = (((1,),), ((1, 4), (1, 5)), ((1,), (2,)))
        self.told(scheme, book, store, 1, (1, 4), ())
        self.told(scheme, book, (((1,),), ((1, 4), (1, 5)), ((1,),)), 1, (1, 4), (0,))
        self.told(scheme, book, (((1,),), ((1, 4),), ((1,), (2,))), 1, (1, 4), (0,))

    def test_a_changed_row_that_is_there_already(self):
        # With any other value the cell would break the dependency; with 2 the two rows are one.
        book = (("settles", 0, (), (0,)), ("settles", 0, (1,), (0,)))
        self.told((2,), book, (((0, 1), (0, 2)),), 0, (0, 1), (0,))
        # Only two rows may be in the table, as told by the other one.
        scheme = (1, 1)
        book = (("within", 0, (0,), 1, (0,)),)
        self.told(scheme, book, (((1,), (2,)), ((1,), (2,))), 0, (1,), ())
        self.told(scheme, book, (((1,),), ((1,),)), 0, (1,), (0,))

    def test_values_of_any_size_and_sign(self):
        book = (("settles", 0, (0,), (1,)),)
        store = (((-LONG, LONG, 0), (-LONG, LONG, 1), (LONG, -1, LONG + 1)),)
        self.assertIs(is_redundant((3,), book, store, 0, (-LONG, LONG, 0), 1), True)
        self.assertIs(is_redundant((3,), book, store, 0, (-LONG, LONG, 0), 0), False)
        self.assertIs(is_redundant((3,), book, store, 0, (LONG, -1, LONG + 1), 1), False)

    def test_by_chance_against_the_plain_words(self):
        chance = random.Random(32)
        seen = {True: 0, False: 0}
        while min(seen.values()) < 250:
            scheme = tuple(chance.randint(1, 3) for _ in range(chance.randint(1, 3)))
            book = some_book(chance, scheme, 3)
            store = some_store(chance, scheme, 4, -1, 1)
            if keeps_all(scheme, store, book):
                for table, rows in enumerate(store):
                    for row, column in product(rows, range(scheme[table])):
                        told = is_redundant(scheme, book, store, table, row, column)
                        self.assertIs(told, plainly_redundant(scheme, book, store, table, row, column),
                                      (scheme, book, store, table, row, column))
                        seen[told] += 1

    def test_a_large_store(self):
        rows = tuple((k // 4, k // 4 + 1, k, k % 5, k % 7, 0, -k) for k in range(200))
        book = (("settles", 0, (0,), (1,)),) * 10 + (("settles", 0, (2,), (6,)),) * 9 + (("deals", 0, (2,), (3,)),)
        self.assertIs(is_redundant((7,), book, (rows,), 0, rows[9], 1), True)
        self.assertIs(is_redundant((7,), book, (rows,), 0, rows[9], 0), False)


class RedundantCellTest(unittest.TestCase):
    def told(self, scheme, book):
        found = redundant_cell(scheme, book)
        self.assertIs(found is None, form_breach(scheme, book, 0) is None)
        if found is not None:
            store, row, column = found
            self.assertIsNone(check_store(scheme, store))
            self.assertTrue(all(value >= 0 for one in store[0] for value in one))
            self.assertIs(keeps_all(scheme, store, book), True)
            self.assertIn(row, store[0])
            self.assertIn(column, range(scheme[0]))
            self.assertIs(is_redundant(scheme, book, store, 0, row, column), True)
            self.assertTrue(plainly_redundant(scheme, book, store, 0, row, column))
        return found

    def test_none(self):
        for width, book in ((3, ()), (1, ()), (1, (("settles", 0, (), (0,)),)), (2, (("settles", 0, (0,), (1,)),)),
                            (3, (("settles", 0, (0,), (1, 2)), ("deals", 0, (0,), (1,))))):
            self.assertIsNone(self.told((width,), book))

    def test_settles_and_deals(self):
        for width, book in ((3, (("settles", 0, (0,), (1,)),)), (2, (("settles", 0, (), (0,)),)),
                            (3, (("deals", 0, (0,), (1,)),)), (2, (("deals", 0, (), (0,)),)),
                            (5, (("deals", 0, (0,), (1, 2)), ("settles", 0, (1,), (4,)))),
                            (7, (("deals", 0, (0,), (1, 2)), ("deals", 0, (0,), (3,))))):
            self.assertIsNotNone(self.told((width,), book))

    def test_by_chance(self):
        chance = random.Random(33)
        for _ in range(200):
            width = chance.randint(1, 5)
            self.told((width,), some_local_book(chance, width, 3))

    def test_no_small_store_has_one_where_there_is_none(self):
        rows = tuple(product(range(2), repeat=3))
        stores = [(tuple(row for at, row in enumerate(rows) if bits >> at & 1),) for bits in range(256)]
        chance = random.Random(34)
        books = [(), (("settles", 0, (0,), (1, 2)),), (("settles", 0, (0, 1), (2,)), ("settles", 0, (2,), (0, 1)))]
        for book in books + [some_local_book(chance, 3, 2) for _ in range(20)]:
            if redundant_cell((3,), book) is None:
                for store in stores:
                    if keeps_all((3,), store, book):
                        for row, column in product(store[0], range(3)):
                            self.assertIs(is_redundant((3,), book, store, 0, row, column), False)


class PartedTest(unittest.TestCase):
    def test_not_parted(self):
        self.assertEqual(parted((3,), (), 0), ((0, 1, 2),))
        self.assertEqual(parted((1,), (("settles", 0, (), (0,)),), 0), ((0,),))
        self.assertEqual(parted((3,), (("settles", 0, (0,), (1, 2)),), 0), ((0, 1, 2),))
        self.assertEqual(parted((2,), (("settles", 0, (0,), (1,)),), 0), ((0, 1),))
        self.assertEqual(parted((3,), (AROUND,), 0), ((0, 1, 2),))

    def test_settles(self):
        self.assertEqual(parted((3,), (("settles", 0, (1,), (2,)),), 0), ((0, 1), (1, 2)))
        book = (("settles", 0, (0,), (1,)), ("settles", 0, (1,), (2,)), ("settles", 0, (2,), (3,)))
        # The least left is that of column 1, as column 0 settles all.
        self.assertEqual(parted((4,), book, 0), ((0, 1), (1, 2), (2, 3)))

    def test_deals(self):
        book = (("deals", 0, (0,), (1, 2)),)
        self.assertEqual(parted((5,), book, 0), ((0, 1, 2), (0, 3, 4)))
        self.assertEqual(parted((4,), (("deals", 0, (), (1, 3)),), 0), ((0, 2), (1, 3)))

    def test_a_single_column_is_dealt_by_itself(self):
        self.assertEqual(parted((3,), (("settles", 0, (), (2,)),), 0), ((0, 1), (2,)))
        # Column 1 is settled by itself; the sets are those of the basis of no columns.
        self.assertEqual(parted((3,), (("settles", 0, (), (1,)), ("deals", 0, (), (0,))), 0), ((0,), (1,), (2,)))

    def test_the_fewest_columns_then_the_least_left_and_right(self):
        book = (("deals", 0, (0, 1), (2,)), ("deals", 0, (4,), (3,)))
        # First (4,) with (0, 1, 2, 5), of which (0, 1) with (2,) parts what they are together.
        self.assertEqual(parted((6,), book, 0), ((0, 1, 2), (0, 1, 4, 5), (3, 4)))
        self.assertEqual(parted((6,), book, 0), told_parting((6,), book, 0))

    def test_the_set_of_left_and_right_is_parted_first(self):
        # By (0,) with (1, 2, 3), which (1,) parts again; what is left of all is parted by (4,).
        book = (("deals", 0, (0,), (1, 2, 3)), ("settles", 0, (1,), (2,)), ("settles", 0, (4,), (5,)))
        self.assertEqual(parted((7,), book, 0), ((0, 1, 3), (1, 2), (0, 4, 6), (4, 5)))
        self.assertEqual(parted((7,), book, 0), told_parting((7,), book, 0))

    def test_sets_within_unlike_ones_and_equal_ones(self):
        self.assertEqual(largest_sets([(1,), (0, 2), (0, 1), (2,), (0, 2), (0, 1), (1, 3)]), ((0, 2), (0, 1), (1, 3)))
        self.assertEqual(largest_sets([(0,), (0,)]), ((0,),))

    def test_the_second_table_and_what_is_told_elsewhere(self):
        book = (("within", 1, (0, 1), 0, (1, 0)), ("settles", 0, (1,), (0,)))
        self.assertEqual(parted((2, 3), book, 1), ((0, 1), (0, 2)))
        self.assertEqual(parted((2, 3), book, 0), ((0, 1),))
        self.assertEqual(parted((3,), (("joins", 0, ((0, 1), (1, 2))),), 0), ((0, 1), (1, 2)))

    def test_by_chance_against_the_plain_words_and_without_loss(self):
        chance = random.Random(35)
        many = within = 0
        for _ in range(400):
            scheme = tuple(chance.randint(1, 5) for _ in range(chance.randint(1, 2)))
            book = some_book(chance, scheme, 4)
            table = chance.randrange(len(scheme))
            sets = parted(scheme, book, table)
            self.assertEqual(sets, told_parting(scheme, book, table), (scheme, book, table))
            self.assertIsNone(loss(scheme, book, table, sets))
            many += len(sets) > 2
            within += len(sets) > 1 and any(len(one) == 1 for one in sets)
        self.assertGreater(many, 20)
        self.assertGreater(within, 5)

    def test_seven_columns(self):
        chance = random.Random(36)
        for _ in range(6):
            book = tuple((kind, 0, some_set(chance, 7, 0.3), some_set(chance, 7, 0.3))
                         for kind in ("deals", "deals", "deals", "settles"))
            sets = parted((7,), book, 0)
            self.assertEqual(sets, told_parting((7,), book, 0))
            self.assertIsNone(loss((7,), book, 0, sets))


class CallsTest(unittest.TestCase):
    def test_the_same_answer_again_and_arguments_as_they_were(self):
        book = (("deals", 0, (0,), (1,)), ("settles", 0, (1,), (2,)))
        other = (("settles", 0, (3,), (0,)),)
        store = (((0, 0, 0, 0), (0, 0, 0, 1)),)
        before = copy.deepcopy((book, store))
        for ask in (lambda b: form_breach((4,), b, 0), lambda b: redundant_cell((4,), b), lambda b: parted((4,), b, 0),
                    lambda b: is_redundant((4,), b, store, 0, store[0][0], 2)):
            first = ask(book)
            self.assertNotEqual(ask(other), first)
            self.assertEqual(ask(book), first)
        self.assertEqual((book, store), before)
