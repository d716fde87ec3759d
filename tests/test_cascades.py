"""Point [41]: rows taken away by cascade, and rows put in by completion."""

import copy
import random
import unittest
from itertools import chain, combinations, product

from norowstray.cascades import put_in, taken_away
from norowstray.holding import keeps_all
from norowstray.schemes import check_store
from tests.helpers import LONG
from tests.plain import PlainChase, some_book, some_store


def inclusions(book):
    return tuple(one for one in book if one[0] == "within")


def within(rows):
    """All subsets of rows."""
    return chain.from_iterable(combinations(rows, many) for many in range(len(rows) + 1))


def plainly_taken(scheme, book, store, table, row):
    """Of all stores within the store, without the row, that keep the inclusions, the one that has all others."""
    less = [[one for one in rows if at != table or one != row] for at, rows in enumerate(store)]
    kept = [one for one in product(*(list(within(rows)) for rows in less)) if keeps_all(scheme, one, inclusions(book))]
    greatest = max(kept, key=lambda one: sum(map(len, one)))
    assert all(set(mine) <= set(its) for one in kept for mine, its in zip(one, greatest))
    return greatest


def plainly_put(scheme, book, store, table, row):
    """By a chase of the words of the document: the rows of known values, if they keep the book."""
    plain = PlainChase(scheme, book, tuple(tuple(sorted(set(rows + (row,)))) if at == table else rows
                                           for at, rows in enumerate(store)))
    steps = plain.steps()
    while steps:
        if plain.step(steps[0]) == "clash":
            return None
        steps = plain.steps()
    sure = tuple(tuple(one for one in rows if min(one) >= 0) for rows in plain.result())
    return sure if keeps_all(scheme, sure, book) else None


class TakenAwayTest(unittest.TestCase):
    def told(self, scheme, book, store, table, row, wanted):
        self.assertEqual(plainly_taken(scheme, book, store, table, row), wanted)
        self.assertEqual(taken_away(scheme, book, store, table, row), wanted)

    def test_no_inclusions(self):
        self.told((1,), (), (((1,), (2,), (3,)),), 0, (2,), (((1,), (3,)),))
        self.told((1,), (), (((1,),),), 0, (1,), ((),))

    def test_rows_of_other_tables_that_need_it(self):
        book = (("within", 0, (0,), 1, (0,)),)
        store = (((1, 5), (1, 6), (2, 5)), ((1, 0), (2, 0)))
        self.told((2, 2), book, store, 1, (1, 0), (((2, 5),), ((2, 0),)))
        self.told((2, 2), book, store, 1, (2, 0), (((1, 5), (1, 6)), ((1, 0),)))

    def test_rows_that_need_others_are_taken_away_alone(self):
        book = (("within", 0, (0,), 1, (0,)),)
        store = (((1, 5), (1, 6), (2, 5)), ((1, 0), (2, 0)))
        self.told((2, 2), book, store, 0, (1, 5), (((1, 6), (2, 5)), store[1]))

    def test_other_rows_that_have_the_same_values(self):
        book = (("within", 0, (0,), 1, (0,)),)
        store = (((1, 5), (2, 5)), ((1, 0), (1, 7), (2, 0)))
        self.told((2, 2), book, store, 1, (1, 0), (store[0], ((1, 7), (2, 0))))
        self.told((2, 2), book, store, 1, (2, 0), (((1, 5),), ((1, 0), (1, 7))))

    def test_over_several_tables(self):
        book = (("within", 0, (0,), 1, (1,)), ("within", 1, (0,), 2, (0,)), ("within", 2, (0,), 3, (0,)))
        store = (((5,), (6,)), ((1, 5), (2, 6)), ((1,), (2,)), ((1,), (2,), (3,)))
        self.told((1, 2, 1, 1), book, store, 3, (1,), (((6,),), ((2, 6),), ((2,),), ((2,), (3,))))
        self.told((1, 2, 1, 1), book, store, 2, (2,), (((5,),), ((1, 5),), ((1,),), store[3]))
        self.told((1, 2, 1, 1), book, store, 3, (3,), store[:3] + (((1,), (2,)),))

    def test_any_order_of_tables_and_of_the_book(self):
        scheme = (1, 1, 1, 1)
        for order in ((0, 1, 2, 3), (3, 2, 1, 0), (2, 0, 3, 1), (1, 3, 0, 2)):
            book = tuple(("within", one, (0,), other, (0,)) for one, other in zip(order, order[1:]))
            for told in (book, book[::-1], book[1:] + book[:1]):
                store = (((1,), (2,)),) * 4
                self.assertEqual(taken_away(scheme, told, store, order[3], (1,)), (((2,),),) * 4)

    def test_inclusions_of_several_columns(self):
        book = (("within", 0, (0, 2), 1, (1, 0)),)
        store = (((1, 0, 2), (1, 9, 2), (2, 0, 1)), ((1, 2), (2, 1)))
        self.told((3, 2), book, store, 1, (2, 1), (((2, 0, 1),), ((1, 2),)))
        self.told((3, 2), book, store, 1, (1, 2), (((1, 0, 2), (1, 9, 2)), ((2, 1),)))

    def test_several_inclusions_of_one_table(self):
        book = (("within", 0, (0,), 1, (0,)), ("within", 0, (1,), 1, (0,)), ("within", 0, (1,), 2, (0,)))
        store = (((1, 1), (1, 2), (2, 2)), ((1,), (2,)), ((1,), (2,)))
        self.told((2, 1, 1), book, store, 1, (2,), (((1, 1),), ((1,),), store[2]))
        self.told((2, 1, 1), book, store, 2, (2,), (((1, 1),), store[1], ((1,),)))

    def test_all_rows_are_lost(self):
        book = (("within", 0, (0,), 1, (0,)), ("within", 1, (0,), 2, (0,)))
        store = (((1,),), ((1,),), ((1,),))
        self.told((1, 1, 1), book, store, 2, (1,), ((), (), ()))

    def test_tables_to_which_no_inclusion_leads(self):
        book = (("within", 0, (0,), 1, (0,)),)
        store = (((1,),), ((1,),), ((1,), (2,)))
        self.told((1, 1, 1), book, store, 2, (1,), (((1,),), ((1,),), ((2,),)))
        self.told((1, 1, 1), book, store, 0, (1,), ((), ((1,),), ((1,), (2,))))

    def test_other_dependencies_play_no_part(self):
        others = (("settles", 0, (0,), (1,)), ("deals", 0, (), (0,)), ("joins", 0, ((0,), (1,))),
                  ("settles", 1, (), (0,)))
        book = (("within", 0, (0,), 1, (0,)),)
        # Kept, and not kept, before and behind.
        for store in ((((1, 5), (2, 6), (2, 7)), ((1,), (2,))), (((1, 5), (1, 6), (2, 5), (2, 6)), ((1,), (2,)))):
            for row in store[0]:
                wanted = (tuple(one for one in store[0] if one != row), store[1])
                self.told((2, 1), others[:2] + book + others[2:], store, 0, row, wanted)
            self.told((2, 1), others + book, store, 1, (1,), (tuple(one for one in store[0] if one[0] == 2), ((2,),)))
            self.told((2, 1), others, store, 1, (1,), (store[0], ((2,),)))

    def test_values_of_any_size_and_sign(self):
        book = (("within", 0, (0,), 1, (0,)),)
        store = (((-LONG,), (-1,), (LONG,)), ((-LONG,), (-1,), (LONG,)))
        for row in store[0]:
            wanted = tuple(one for one in store[0] if one != row)
            self.assertEqual(taken_away((1, 1), book, store, 1, row), (wanted, wanted))

    def test_by_chance(self):
        chance = random.Random(41)
        lost = 0
        for _ in range(900):
            scheme = tuple(chance.randint(1, 2) for _ in range(chance.randint(2, 4)))
            book = some_book(chance, scheme, 6)
            store = some_store(chance, scheme, 3, 0, 1)
            # What does not keep the inclusions is left out first.
            store = plainly_taken(scheme, book, store, 0, None)
            places = [(table, row) for table, rows in enumerate(store) for row in rows]
            if places:
                table, row = chance.choice(places)
                told = taken_away(scheme, book, store, table, row)
                self.assertEqual(told, plainly_taken(scheme, book, store, table, row))
                self.assertIsNone(check_store(scheme, told))
                lost += sum(map(len, store)) - sum(map(len, told)) > 1
        self.assertGreater(lost, 30)


class PutInTest(unittest.TestCase):
    def told(self, scheme, book, store, table, row, wanted):
        self.assertTrue(keeps_all(scheme, store, book))
        self.assertEqual(plainly_put(scheme, book, store, table, row), wanted)
        self.assertEqual(put_in(scheme, book, store, table, row), wanted)

    def test_no_dependencies(self):
        self.told((1,), (), (((1,), (3,)),), 0, (2,), (((1,), (2,), (3,)),))
        self.told((1, 1), (), ((), ()), 1, (0,), ((), ((0,),)))

    def test_the_row_is_there_already(self):
        book = (("settles", 0, (0,), (1,)), ("within", 0, (0,), 1, (0,)))
        store = (((1, 5), (2, 6)), ((1,), (2,)))
        self.told((2, 1), book, store, 0, (2, 6), store)
        self.told((2, 1), book, store, 1, (1,), store)

    def test_rows_that_the_chase_adds(self):
        book = (("deals", 0, (0,), (1,)),)
        self.told((3,), book, (((1, 2, 3),),), 0, (1, 4, 5), (((1, 2, 3), (1, 2, 5), (1, 4, 3), (1, 4, 5)),))
        self.told((3,), book, (((1, 2, 3),),), 0, (2, 4, 5), (((1, 2, 3), (2, 4, 5)),))
        book = (("joins", 0, ((0, 1), (1, 2), (0, 2))),)
        self.told((3,), book, (((0, 1, 3), (4, 1, 2)),), 0, (0, 5, 2), (((0, 1, 2), (0, 1, 3), (0, 5, 2), (4, 1, 2)),))

    def test_rows_of_other_tables(self):
        book = (("within", 0, (1, 0), 1, (0, 1)), ("within", 1, (0,), 2, (0,)))
        self.told((2, 2, 1), book, ((), (), ((9,),)), 0, (4, 5), (((4, 5),), ((5, 4),), ((5,), (9,))))

    def test_the_row_that_is_needed_is_there(self):
        book = (("within", 0, (0,), 1, (0,)),)
        self.told((2, 2), book, ((), ((1, 7), (2, 8))), 0, (1, 0), (((1, 0),), ((1, 7), (2, 8))))

    def test_unknown_values_that_known_ones_settle(self):
        # The row put into table 1 gets its second value from the row that is there.
        book = (("within", 0, (0, 1), 1, (0, 2)), ("settles", 1, (0,), (1,)))
        self.told((2, 3), book, (((1, 5),), ((1, 7, 5),)), 0, (1, 6), (((1, 5), (1, 6)), ((1, 7, 5), (1, 7, 6))))
        # For another first value it stays unknown.
        self.told((2, 3), book, (((1, 5),), ((1, 7, 5),)), 0, (2, 6), None)
        # If all rows have one value there, so has that of the row that is put in.
        book = (("within", 0, (0,), 1, (0,)), ("settles", 1, (), (1,)))
        self.told((1, 2), book, ((), ((1, 7),)), 0, (2,), (((2,),), ((1, 7), (2, 7))))
        self.told((1, 2), book, ((), ()), 0, (2,), None)

    def test_an_unknown_row_that_nothing_needs(self):
        # The put row stays unknown in part, so no row for it is sure, and the inclusion is not kept.
        book = (("within", 0, (0,), 1, (0,)),)
        self.told((1, 2), book, ((), ()), 0, (2,), None)
        self.told((1, 2), book, ((), ((1, 1),)), 0, (2,), None)
        # What is put into tables of one column is known.
        book = (("within", 0, (0,), 1, (0,)), ("within", 0, (0,), 2, (0,)), ("within", 1, (0,), 2, (0,)))
        self.told((1, 1, 1), book, ((), (), ()), 0, (2,), (((2,),), ((2,),), ((2,),)))

    def test_clash(self):
        book = (("settles", 0, (0,), (1,)),)
        self.told((2,), book, (((1, 5),),), 0, (1, 6), None)
        self.told((2,), book, (((1, 5),),), 0, (2, 6), (((1, 5), (2, 6)),))
        book = (("deals", 0, (0,), (1,)), ("settles", 0, (1,), (2,)))
        self.told((3,), book, (((1, 2, 3),),), 0, (1, 4, 5), None)
        self.told((3,), book, (((1, 2, 3),),), 0, (1, 4, 3), (((1, 2, 3), (1, 4, 3)),))
        book = (("within", 0, (0, 1), 1, (0, 1)), ("settles", 1, (0,), (1,)))
        self.told((2, 2), book, ((), ((1, 5),)), 0, (1, 6), None)

    def test_what_keeps_the_book_only_with_unknown_rows(self):
        # The two rows deal rows that need others with unknown values.
        book = (("deals", 0, (0,), (1,)), ("within", 0, (1, 2), 1, (0, 1)))
        store = (((1, 2, 3),), ((2, 3, 0),))
        self.told((3, 3), book, store, 0, (1, 2, 4), None)
        self.told((3, 2), book, (((1, 2, 3),), ((2, 3),)), 0, (1, 4, 5),
                  (((1, 2, 3), (1, 2, 5), (1, 4, 3), (1, 4, 5)), ((2, 3), (2, 5), (4, 3), (4, 5))))

    def test_values_of_any_size(self):
        book = (("within", 0, (0,), 1, (0,)),)
        self.told((1, 1), book, ((), ((0,),)), 0, (LONG,), (((LONG,),), ((0,), (LONG,))))

    def test_by_chance(self):
        chance = random.Random(14)
        seen = {"none": 0, "more": 0, "it alone": 0}
        for _ in range(1500):
            scheme = tuple(chance.randint(1, 3) for _ in range(chance.randint(1, 3)))
            book = some_book(chance, scheme, 4)
            store = some_store(chance, scheme, 2, 0, 2)
            if keeps_all(scheme, store, book):
                table = chance.randrange(len(scheme))
                row = tuple(chance.randint(0, 2) for _ in range(scheme[table]))
                told = put_in(scheme, book, store, table, row)
                self.assertEqual(told, plainly_put(scheme, book, store, table, row))
                if told is None:
                    seen["none"] += 1
                    continue
                self.assertIsNone(check_store(scheme, told))
                self.assertTrue(keeps_all(scheme, told, book))
                self.assertTrue(all(set(one) <= set(other) for one, other in zip(store, told)))
                self.assertIn(row, told[table])
                more = sum(map(len, told)) - sum(map(len, store)) - (row not in store[table])
                seen["more" if more else "it alone"] += 1
        self.assertGreater(min(seen.values()), 30)

    def test_it_lies_within_all_stores_of_the_book_that_have_both(self):
        chance = random.Random(15)
        scheme = (1, 2)
        every = [tuple(product(range(3), repeat=width)) for width in scheme]
        stores = list(product(*(list(within(rows)) for rows in every)))
        for _ in range(25):
            book = some_book(chance, scheme, 3)
            kept = [store for store in stores if keeps_all(scheme, store, book)]
            store = min(chance.sample(kept, min(12, len(kept))), key=lambda one: sum(map(len, one)))
            table = chance.randrange(2)
            row = chance.choice(every[table])
            told = put_in(scheme, book, store, table, row)
            having = [one for one in kept if row in one[table]
                      and all(set(mine) <= set(its) for mine, its in zip(store, one))]
            if told is not None:
                self.assertIn(told, having)
                for one in having:
                    self.assertTrue(all(set(mine) <= set(its) for mine, its in zip(told, one)))


class SharingTest(unittest.TestCase):
    def test_arguments_stay_and_answers_are_the_same_again(self):
        scheme = (2, 1)
        book = (("within", 0, (0,), 1, (0,)), ("settles", 0, (0,), (1,)))
        store = (((1, 5), (2, 6)), ((1,), (2,)))
        kept = copy.deepcopy((scheme, book, store))
        for call in (lambda: taken_away(scheme, book, store, 1, (1,)), lambda: put_in(scheme, book, store, 0, (3, 5))):
            told = call()
            self.assertEqual(call(), told)
            self.assertIsInstance(told, tuple)
            self.assertTrue(all(isinstance(one, tuple) for rows in told for one in (rows,) + rows))
            self.assertEqual((scheme, book, store), kept)
