"""Points [4] to [8]: schemes, books, stores, and what says nothing."""

import copy
import unittest
from itertools import combinations, product

from norowstray.errors import InvalidBook, InvalidScheme, InvalidStore
from norowstray.schemes import check_book, check_scheme, check_store, says_nothing
from tests.helpers import LONG, raised


class SchemeTest(unittest.TestCase):
    def test_right_schemes(self):
        for scheme in ((1,), (3, 1, 7), (LONG,), (1,) * 10000, (2, LONG, 1)):
            self.assertIsNone(check_scheme(scheme))

    def test_wrong_schemes(self):
        for scheme in ((), (0,), (-1,), (3, 0), (3, 0, 2), (0, 3), (-LONG,), (2, 2, -LONG), (1,) * 9999 + (0,)):
            self.assertIs(type(raised(check_scheme, scheme)), InvalidScheme)


class BookTest(unittest.TestCase):
    def right(self, scheme, *book):
        self.assertIsNone(check_book(scheme, book))

    def wrong(self, scheme, *book):
        self.assertIs(type(raised(check_book, scheme, book)), InvalidBook, (scheme, book))

    def test_empty_book(self):
        self.right((3,))
        self.right((1, LONG))

    def test_right_settles_and_deals(self):
        for kind in ("settles", "deals"):
            for left, right in (((), ()), ((0,), (1, 2)), ((), (2,)), ((0, 1, 2), ()), ((0, 1), (1, 2)), ((2,), (2,))):
                self.right((3,), (kind, 0, left, right))
                self.right((1, 3), (kind, 1, left, right))

    def test_sides_must_be_sets_of_columns(self):
        bad = ((1, 0), (0, 0), (1, 1, 2), (0, 2, 1), (3,), (-1,), (0, 3), (-1, 0), (LONG,), (-LONG,), (0, LONG))
        for kind in ("settles", "deals"):
            for columns in bad:
                self.wrong((3, 5), (kind, 0, columns, (1,)))
                self.wrong((3, 5), (kind, 0, (1,), columns))
            self.wrong((3, 3), (kind, 0, (0,), (1,)), (kind, 1, (1, 0), ()))

    def test_table_must_be_there(self):
        for table in (2, -1, -2, LONG, -LONG):
            self.wrong((3, 3), ("settles", table, (0,), (1,)))
            self.wrong((3, 3), ("settles", table, (), ()))
            self.wrong((3, 3), ("deals", table, (0,), (1,)))
            self.wrong((3, 3), ("joins", table, ((0, 1, 2),)))
            self.wrong((3, 3), ("within", table, (0,), 1, (1,)))
            self.wrong((3, 3), ("within", 0, (0,), table, (1,)))

    def test_right_joins(self):
        self.right((3,), ("joins", 0, ((0, 1), (1, 2))))
        self.right((3,), ("joins", 0, ((0, 1, 2),)))
        self.right((3,), ("joins", 0, ((2,), (1,), (0,))))
        self.right((3,), ("joins", 0, ((0, 1), (0, 1), (2,), (0,))))
        self.right((1,), ("joins", 0, ((0,),) * 3000))

    def test_wrong_joins(self):
        self.wrong((3,), ("joins", 0, ()))
        self.wrong((3,), ("joins", 0, ((),)))
        self.wrong((3,), ("joins", 0, ((0, 1, 2), ())))
        self.wrong((3,), ("joins", 0, ((0, 1),)))
        self.wrong((3,), ("joins", 0, ((0, 1), (1,), (0,))))
        self.wrong((3,), ("joins", 0, ((0, 1), (1, 2, 3))))
        self.wrong((3,), ("joins", 0, ((0, 1), (-1, 2))))
        self.wrong((3,), ("joins", 0, ((-1, 0, 1),)))
        self.wrong((3,), ("joins", 0, ((0, 1), (2, 1))))
        self.wrong((3,), ("joins", 0, ((0, 1), (2, 2))))
        self.wrong((3,), ("joins", 0, ((0, 1), (2, LONG))))
        self.wrong((LONG,), ("joins", 0, ((0, 1), (1, 2))))

    def test_right_inclusions(self):
        self.right((3, 2), ("within", 0, (2, 0), 1, (0, 1)))
        self.right((3, 2), ("within", 0, (2, 0), 1, (1, 0)))
        self.right((3, 2), ("within", 1, (1,), 0, (2,)))
        self.right((1, 1, 1), ("within", 0, (0,), 1, (0,)), ("within", 0, (0,), 2, (0,)), ("within", 1, (0,), 2, (0,)),
                   ("within", 0, (0,), 1, (0,)))

    def test_wrong_inclusions(self):
        self.wrong((3, 3), ("within", 0, (0,), 0, (1,)))
        self.wrong((3, 3), ("within", 1, (0,), 1, (0,)))
        self.wrong((3, 3), ("within", 0, (), 1, ()))
        self.wrong((3, 3), ("within", 0, (), 1, (0,)))
        self.wrong((3, 3), ("within", 0, (0,), 1, ()))
        self.wrong((3, 3), ("within", 0, (0, 1), 1, (0,)))
        self.wrong((3, 3), ("within", 0, (0,), 1, (0, 1)))
        self.wrong((3, 3), ("within", 0, (0, 0), 1, (0, 1)))
        self.wrong((3, 3), ("within", 0, (0, 1), 1, (2, 2)))
        self.wrong((3, 3), ("within", 0, (0, 1, 0), 1, (0, 1, 2)))
        self.wrong((3, 2), ("within", 0, (0,), 1, (2,)))
        self.wrong((2, 3), ("within", 0, (2,), 1, (0,)))
        for column in (3, -1, LONG, -LONG):
            self.wrong((3, 3), ("within", 0, (column,), 1, (0,)))
            self.wrong((3, 3), ("within", 0, (0,), 1, (column,)))

    def test_rings(self):
        for many in (2, 3, 4, 6):
            ring = [("within", at, (0,), (at + 1) % many, (0,)) for at in range(many)]
            scheme = (1,) * many
            self.wrong(scheme, *ring)
            self.wrong(scheme, *reversed(ring))
            self.wrong(scheme, *ring, ("settles", 0, (), (0,)))
            for out in range(many):
                self.right(scheme, *(ring[:out] + ring[out + 1:]))

    def test_ring_beside_other_inclusions(self):
        inclusions = [("within", 0, (0,), 1, (0,)), ("within", 1, (0,), 2, (0,)), ("within", 2, (0,), 3, (0,))]
        self.right((1,) * 5, *inclusions)
        self.wrong((1,) * 5, *inclusions, ("within", 3, (0,), 1, (0,)))
        self.right((1,) * 5, *inclusions, ("within", 4, (0,), 1, (0,)), ("within", 0, (0,), 3, (0,)))

    def test_long_ways_of_inclusions(self):
        many = 20000
        way = [("within", at, (0,), at + 1, (0,)) for at in range(many - 1)]
        self.right((1,) * many, *way)
        self.wrong((1,) * many, *way, ("within", many - 1, (0,), 0, (0,)))

    def test_rings_of_all_small_graphs(self):
        edges = [(a, b) for a, b in product(range(3), repeat=2) if a != b]
        for many in range(len(edges) + 1):
            for chosen in combinations(edges, many):
                book = tuple(("within", a, (0,), b, (0,)) for a, b in chosen)
                reached = set(chosen)
                for _ in range(3):
                    reached |= {(a, d) for a, b in reached for c, d in reached if b == c}
                if any((a, a) in reached for a in range(3)):
                    self.wrong((1, 1, 1), *book)
                else:
                    self.right((1, 1, 1), *book)

    def test_wide_tables(self):
        columns = tuple(range(30000))
        self.right((30000,), ("settles", 0, columns, columns), ("joins", 0, (columns[:20000], columns[15000:])))
        self.right((LONG + 1, LONG), ("settles", 0, (0, LONG), (7,)), ("within", 0, (LONG,), 1, (LONG - 1,)))
        self.wrong((LONG,), ("settles", 0, (0, LONG), (7,)))

    def test_nothing_is_modified(self):
        book = (("settles", 0, (0,), (1,)), ("joins", 0, ((0, 1), (1, 2))), ("within", 0, (2, 0), 1, (0, 1)))
        scheme = (3, 2)
        before = copy.deepcopy((scheme, book))
        check_book(scheme, book)
        self.assertEqual((scheme, book), before)


class StoreTest(unittest.TestCase):
    def wrong(self, scheme, store):
        self.assertIs(type(raised(check_store, scheme, store)), InvalidStore, (scheme, store))

    def test_right_stores(self):
        self.assertIsNone(check_store((2,), (((1, 2), (1, 3), (2, 0)),)))
        self.assertIsNone(check_store((2, 1), ((), ())))
        self.assertIsNone(check_store((2, 1), ((), ((-LONG,), (-3,), (4,), (LONG,)))))
        self.assertIsNone(check_store((LONG,), ((),)))

    def test_many_rows(self):
        rows = tuple((k, -k) for k in range(50000))
        self.assertIsNone(check_store((2,), (rows,)))
        self.wrong((2,), (rows + ((49999, -49999),),))

    def test_tables_too_many_or_too_few(self):
        self.wrong((2,), ())
        self.wrong((2,), ((), ()))
        self.wrong((2, 1), ((),))
        self.wrong((2, 1), (((1, 2),), ((1,),), ()))

    def test_rows_too_long_or_too_short(self):
        self.wrong((2,), (((1,),),))
        self.wrong((2,), (((1, 2, 3),),))
        self.wrong((2,), (((),),))
        self.wrong((2, 1), ((), ((1,), (2, 3))))
        self.wrong((LONG,), (((1,),),))

    def test_rows_twice_or_out_of_order(self):
        self.wrong((2,), (((1, 2), (1, 2)),))
        self.wrong((2,), (((1, 3), (1, 2)),))
        self.wrong((2,), (((2, 0), (1, 9)),))
        self.wrong((1, 1), (((1,),), ((LONG,), (LONG,))))
        self.wrong((1,), (((-1,), (-2,)),))
        self.wrong((1,), (((1,), (3,), (2,)),))


class NothingTest(unittest.TestCase):
    def test_settles(self):
        for left, right, said in (((0, 1), (1,), True), ((0,), (0,), True), ((), (), True), ((0,), (), True),
                                  ((0,), (1,), False), ((0,), (0, 1), False), ((), (0,), False),
                                  ((0, 1), (2,), False), ((0, 1, 2), (0, 1, 2), True)):
            self.assertIs(says_nothing((3,), ("settles", 0, left, right)), said)

    def test_deals(self):
        for left, right, said in (((0, 1), (1,), True), ((), (), True), ((0,), (1, 2), True), ((0, 1), (1, 2), True),
                                  ((), (0, 1, 2), True), ((0, 1), (2,), True), ((0,), (1,), False), ((), (1,), False),
                                  ((0,), (0, 1), False), ((), (1, 2), False)):
            self.assertIs(says_nothing((3,), ("deals", 0, left, right)), said)

    def test_joins(self):
        self.assertIs(says_nothing((3,), ("joins", 0, ((0, 1, 2),))), True)
        self.assertIs(says_nothing((3,), ("joins", 0, ((0, 1), (0, 1, 2)))), True)
        self.assertIs(says_nothing((3,), ("joins", 0, ((0, 1), (1, 2)))), False)
        self.assertIs(says_nothing((3,), ("joins", 0, ((0, 1), (1, 2), (0, 2)))), False)
        self.assertIs(says_nothing((1,), ("joins", 0, ((0,), (0,)))), True)

    def test_within(self):
        self.assertIs(says_nothing((1, 1), ("within", 0, (0,), 1, (0,))), False)

    def test_the_table_that_is_named_counts(self):
        self.assertIs(says_nothing((3, 2), ("deals", 1, (0,), (1,))), True)
        self.assertIs(says_nothing((2, 3), ("deals", 1, (0,), (1,))), False)
        self.assertIs(says_nothing((2, 3), ("joins", 1, ((0, 1), (2,)))), False)

    def test_very_wide_table(self):
        self.assertIs(says_nothing((LONG,), ("deals", 0, (0,), (1,))), False)
        self.assertIs(says_nothing((LONG,), ("joins", 0, ((0,), (1,)))), False)
