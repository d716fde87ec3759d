"""Points [11] and [12]: projections, joins, stray rows and losses."""

import random
import unittest
from itertools import product

from norowstray.following import follows
from norowstray.holding import keeps, keeps_all
from norowstray.joining import join, loss, projection, stray_rows
from norowstray.schemes import check_store
from tests.helpers import LONG
from tests.plain import join_of, project, some_book, some_set


def some_parts(chance, width, most):
    """Parts with all columns by chance."""
    parts = [some_set(chance, width, 0.5) or (0,) for _ in range(chance.randint(1, most))]
    missing = tuple(c for c in range(width) if not any(c in part for part in parts))
    return tuple(parts) + ((missing,) if missing else ())


class ProjectionTest(unittest.TestCase):
    def test_ordinary(self):
        rows = ((1, 2, 3), (1, 0, 3), (0, 9, 9))
        self.assertEqual(projection(rows, (0, 2)), ((0, 9), (1, 3)))
        self.assertEqual(projection(rows, (1,)), ((0,), (2,), (9,)))
        self.assertEqual(projection(rows, (0, 1, 2)), ((0, 9, 9), (1, 0, 3), (1, 2, 3)))

    def test_rows_twice_and_in_any_order(self):
        self.assertEqual(projection(((2,), (1,), (2,), (-3,)), (0,)), ((-3,), (1,), (2,)))

    def test_no_columns_and_no_rows(self):
        self.assertEqual(projection(((1, 2), (3, 4)), ()), ((),))
        self.assertEqual(projection((), ()), ())
        self.assertEqual(projection((), (0, 1)), ())
        self.assertEqual(projection(((), ()), ()), ((),))

    def test_long_values(self):
        self.assertEqual(projection(((LONG, 1), (-LONG, 2)), (0,)), ((-LONG,), (LONG,)))


class JoinTest(unittest.TestCase):
    def test_ordinary(self):
        self.assertEqual(join(3, (((1, 2), (0, 2)), ((2, 5), (2, 4), (3, 0))), ((0, 1), (1, 2))),
                         ((0, 2, 4), (0, 2, 5), (1, 2, 4), (1, 2, 5)))

    def test_any_order_and_rows_twice(self):
        self.assertEqual(join(2, (((3,), (1,), (3,)), ((2,), (2,), (-1,))), ((1,), (0,))),
                         ((-1, 1), (-1, 3), (2, 1), (2, 3)))

    def test_a_projection_without_rows(self):
        self.assertEqual(join(2, (((1,),), ()), ((0,), (1,))), ())
        self.assertEqual(join(2, ((), ((1,),)), ((0,), (1,))), ())
        self.assertEqual(join(2, (((1, 2),), ()), ((0, 1), (0,))), ())
        self.assertEqual(join(2, ((),), ((0, 1),)), ())

    def test_equal_parts_and_parts_within_others(self):
        self.assertEqual(join(2, (((1, 2), (3, 4)), ((3, 4), (5, 6))), ((0, 1), (0, 1))), ((3, 4),))
        self.assertEqual(join(2, (((1, 2), (3, 4), (3, 5)), ((3,), (0,))), ((0, 1), (0,))), ((3, 4), (3, 5)))
        self.assertEqual(join(2, (((3,), (0,)), ((1, 2), (3, 4), (3, 5))), ((0,), (0, 1))), ((3, 4), (3, 5)))

    def test_parts_and_tables_without_columns(self):
        self.assertEqual(join(2, (((1, 2),), ((),)), ((0, 1), ())), ((1, 2),))
        self.assertEqual(join(2, (((1, 2),), ()), ((0, 1), ())), ())
        self.assertEqual(join(0, (((), ()),), ((),)), ((),))
        self.assertEqual(join(0, ((),), ((),)), ())

    def test_round_of_parts(self):
        pairs = ((0, 0), (0, 1), (1, 0))
        self.assertEqual(join(3, (pairs, pairs, pairs), ((0, 1), (1, 2), (0, 2))),
                         ((0, 0, 0), (0, 0, 1), (0, 1, 0), (1, 0, 0)))
        unlike = ((0, 1), (1, 0))
        self.assertEqual(join(3, (unlike, unlike, unlike), ((0, 1), (1, 2), (0, 2))), ())

    def test_long_values(self):
        self.assertEqual(join(2, (((LONG,), (-LONG,)), ((LONG + 1,),)), ((0,), (1,))),
                         ((-LONG, LONG + 1), (LONG, LONG + 1)))

    def test_many_rows(self):
        halves = tuple((k, k % 7) for k in range(2000))
        rows = join(3, (halves, tuple((k, -k) for k in range(7))), ((0, 1), (1, 2)))
        self.assertEqual(rows, tuple((k, k % 7, -(k % 7)) for k in range(2000)))

    def test_very_many_parts(self):
        self.assertEqual(join(2, (((1, 2), (3, 4)),) * 2000, ((0, 1),) * 2000), ((1, 2), (3, 4)))

    def test_by_chance_against_the_plain_words(self):
        chance = random.Random(11)
        for _ in range(800):
            width = chance.randint(1, 4)
            parts = some_parts(chance, width, 4)
            projections = tuple(tuple(tuple(chance.randint(-1, 1) for _ in part)
                                      for _ in range(chance.randint(0, 9))) for part in parts)
            self.assertEqual(join(width, projections, parts), join_of(width, projections, parts))


class StrayTest(unittest.TestCase):
    def test_ordinary(self):
        rows = ((0, 5, 1), (2, 5, 3))
        self.assertEqual(stray_rows(3, rows, ((0, 1), (1, 2))), ((0, 5, 3), (2, 5, 1)))
        self.assertEqual(stray_rows(3, rows, ((0, 1), (0, 2))), ())

    def test_any_order_twice_and_none(self):
        rows = ((2, 5, 3), (0, 5, 1), (2, 5, 3))
        self.assertEqual(stray_rows(3, rows, ((1, 2), (0, 1))), ((0, 5, 3), (2, 5, 1)))
        self.assertEqual(stray_rows(3, (), ((1, 2), (0, 1))), ())
        self.assertEqual(stray_rows(0, ((), ()), ((),)), ())

    def test_a_part_of_all_columns_lets_no_row_be_stray(self):
        rows = tuple((k, k * k % 5, -k) for k in range(20))
        self.assertEqual(stray_rows(3, rows, ((0,), (0, 1, 2), (1,))), ())
        self.assertEqual(stray_rows(3, rows, ((0, 1, 2),)), ())

    def test_by_chance_against_the_plain_words(self):
        chance = random.Random(12)
        for _ in range(500):
            width = chance.randint(1, 4)
            parts = some_parts(chance, width, 4)
            rows = tuple(tuple(chance.randint(-1, 1) for _ in range(width)) for _ in range(chance.randint(0, 6)))
            joined = join_of(width, [project(rows, part) for part in parts], parts)
            self.assertEqual(stray_rows(width, rows, parts), tuple(row for row in joined if row not in rows))


class LossTest(unittest.TestCase):
    def lost(self, scheme, book, table, parts):
        store, row = loss(scheme, book, table, parts)
        self.assertIsNone(check_store(scheme, store))
        self.assertTrue(all(value >= 0 for rows in store for one in rows for value in one))
        self.assertIs(keeps_all(scheme, store, book), True)
        self.assertIn(row, stray_rows(scheme[table], store[table], parts))

    def test_without_loss(self):
        parts = ((0, 1), (0, 2))
        for book in ((("settles", 0, (0,), (1,)),), (("settles", 0, (0,), (2,)),), (("deals", 0, (0,), (1,)),),
                     (("joins", 0, parts),), (("joins", 0, ((0,), (1,), (2,))),)):
            self.assertIsNone(loss((3,), book, 0, parts))

    def test_with_loss(self):
        parts = ((0, 1), (0, 2))
        for book in ((), (("settles", 0, (1,), (0,)),), (("deals", 0, (1,), (0,)),), (("settles", 0, (1, 2), (0,)),),
                     (("joins", 0, ((0, 1), (0, 2), (1, 2))),), (("joins", 0, ((0,), (1, 2))),)):
            self.lost((3,), book, 0, parts)

    def test_with_other_tables(self):
        scheme = (2, 3, 3)
        book = (("within", 1, (0, 1), 2, (0, 1)), ("settles", 2, (0,), (1,)), ("within", 1, (2,), 0, (0,)))
        self.assertIsNone(loss(scheme, book, 1, ((0, 1), (0, 2))))
        self.lost(scheme, book[:1] + book[2:], 1, ((0, 1), (0, 2)))
        self.lost(scheme, book, 1, ((0, 1), (1, 2)))
        self.lost(scheme, book, 0, ((0,), (1,)))
        self.lost(scheme, book, 2, ((0, 2), (1, 2)))

    def test_parts_with_all_columns(self):
        self.assertIsNone(loss((3,), (), 0, ((0, 1, 2),)))
        self.assertIsNone(loss((3,), (), 0, ((0,), (0, 1, 2))))
        self.assertIsNone(loss((1,), (), 0, ((0,), (0,))))

    def test_none_exactly_if_the_join_dependency_follows(self):
        chance = random.Random(13)
        seen = {True: 0, False: 0}
        for _ in range(600):
            scheme = tuple(chance.randint(1, 4) for _ in range(chance.randint(1, 3)))
            book = some_book(chance, scheme, 4)
            table = chance.randrange(len(scheme))
            parts = some_parts(chance, scheme[table], 3)
            without = follows(scheme, book, ("joins", table, parts))
            seen[without] += 1
            if without:
                self.assertIsNone(loss(scheme, book, table, parts))
            else:
                self.lost(scheme, book, table, parts)
        self.assertGreater(min(seen.values()), 50)

    def test_no_small_store_shows_a_loss_where_there_is_none(self):
        rows = tuple(product(range(2), repeat=3))
        stores = [(tuple(row for at, row in enumerate(rows) if bits >> at & 1),) for bits in range(256)]
        chance = random.Random(14)
        for _ in range(60):
            book = some_book(chance, (3,), 3)
            parts = some_parts(chance, 3, 3)
            if loss((3,), book, 0, parts) is None:
                for store in stores:
                    if all(keeps((3,), store, one) for one in book):
                        self.assertEqual(stray_rows(3, store[0], parts), ())
