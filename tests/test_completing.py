"""Points [13] to [16]: the chase, sure rows, clashes and their judge."""

import copy
import random
import unittest
from itertools import product

from norowstray.completing import chase, clash, judge_clash, sure_rows
from norowstray.holding import keeps_all
from norowstray.schemes import check_store
from tests.helpers import LONG
from tests.plain import PlainChase, plain_judge_clash, some_book, some_store


def completes(store, other):
    """Whether some function on values that leaves known ones leads the store's rows into the other one."""
    unknown = sorted({v for rows in store for row in rows for v in row if v < 0})
    values = sorted({v for rows in other for row in rows for v in row})
    for chosen in product(values, repeat=len(unknown)):
        leads = dict(zip(unknown, chosen))
        if all(tuple(leads.get(v, v) for v in row) in there for rows, there in zip(store, other) for row in rows):
            return True
    return False


class ChaseTest(unittest.TestCase):
    def test_the_lesser_value_becomes_the_greater_one_everywhere(self):
        book = (("settles", 0, (0,), (1,)),)
        self.assertEqual(chase((2, 1), book, (((1, -5), (1, -2)), ((-5,), (-3,), (-2,)))),
                         (((1, -2),), ((-3,), (-2,))))
        self.assertEqual(chase((2, 1), book, (((1, -5), (1, 7)), ((-5,), (7,)))), (((1, 7),), ((7,),)))
        self.assertEqual(chase((2, 2), book, (((1, -1), (1, 0)), ((-1, -1), (4, -1)))),
                         (((1, 0),), ((0, 0), (4, 0))))

    def test_equal_values_may_settle_more(self):
        book = (("settles", 0, (0,), (1,)), ("settles", 1, (0,), (1,)))
        store = (((1, -4), (1, -3)), ((-4, -2), (-3, 6)))
        self.assertEqual(chase((2, 2), book, store), (((1, -3),), ((-3, 6),)))

    def test_known_values_clash(self):
        book = (("settles", 0, (0,), (1,)),)
        for call in (chase, sure_rows):
            self.assertIsNone(call((2,), book, (((1, 2), (1, 3)),)))
            self.assertIsNone(call((2,), book, (((1, -2), (1, 2), (1, 3)),)))
            self.assertIsNone(call((2,), book, (((1, LONG), (1, LONG + 1)),)))
            self.assertIsNotNone(call((2,), book, (((1, 2), (2, 3)),)))

    def test_rows(self):
        self.assertEqual(chase((3,), (("deals", 0, (0,), (1,)),), (((0, 1, 2), (0, 3, -1), (5, 5, 5)),)),
                         (((0, 1, -1), (0, 1, 2), (0, 3, -1), (0, 3, 2), (5, 5, 5)),))
        self.assertEqual(chase((3,), (("joins", 0, ((0, 1), (1, 2))),), (((0, 1, 2), (7, 1, 3)),)),
                         (((0, 1, 2), (0, 1, 3), (7, 1, 2), (7, 1, 3)),))

    def test_new_values_of_a_put(self):
        book = (("within", 0, (1,), 1, (1,)),)
        self.assertEqual(chase((2, 4), book, (((5, 6),), ())), (((5, 6),), ((-1, 6, -2, -3),)))
        # Values that are there are passed over one by one, and lower ones do not count.
        self.assertEqual(chase((2, 4), book, (((-2, 6),), ())), (((-2, 6),), ((-1, 6, -3, -4),)))
        self.assertEqual(chase((2, 4), book, (((-1, 6),), ())), (((-1, 6),), ((-2, 6, -3, -4),)))
        self.assertEqual(chase((2, 4), book, (((-LONG, -3),), ())), (((-LONG, -3),), ((-1, -3, -2, -4),)))

    def test_new_values_are_none_that_were_there_before(self):
        # First -1 becomes 7, and then a new value is wanted.
        scheme = (2, 2)
        book = (("settles", 0, (0,), (1,)), ("within", 0, (1,), 1, (0,)))
        self.assertEqual(chase(scheme, book, (((1, -1), (1, 7)), ())), (((1, 7),), ((7, -2),)))

    def test_put_only_where_a_row_is_missing(self):
        book = (("within", 0, (1, 0), 1, (0, 2)),)
        store = (((1, 2), (3, 4)), ((4, 9, 3),))
        self.assertEqual(chase((2, 3), book, store), (((1, 2), (3, 4)), ((2, -1, 1), (4, 9, 3))))

    def test_puts_go_on_from_table_to_table(self):
        book = (("within", 1, (0,), 2, (0,)), ("within", 0, (0,), 1, (0,)), ("settles", 2, (0,), (1,)))
        self.assertEqual(chase((1, 1, 2), book, (((4,),), ((5,),), ((4, 1),))),
                         (((4,),), ((4,), (5,)), ((4, 1), (5, -1))))

    def test_what_a_put_tells_may_come_back(self):
        book = (("within", 0, (0, 1), 1, (0, 1)), ("settles", 1, (0,), (1,)))
        self.assertEqual(chase((2, 2), book, (((1, -9),), ((1, 8),))), (((1, 8),), ((1, 8),)))
        self.assertIsNone(chase((2, 2), book, (((1, 9),), ((1, 8),))))

    def test_a_store_that_keeps_the_book_stays(self):
        book = (("settles", 0, (0,), (1,)), ("deals", 0, (0,), (1,)), ("within", 0, (1,), 1, (0,)))
        store = (((-LONG, 3, -1), (-LONG, 3, 4)), ((-2,), (3,)))
        self.assertEqual(chase((3, 1), book, store), store)
        self.assertEqual(chase((3, 1), (), store), store)
        self.assertEqual(chase((3, 1), book, ((), ())), ((), ()))

    def test_asking_again_and_arguments(self):
        book = (("settles", 0, (0,), (1,)), ("within", 0, (1,), 1, (0,)), ("joins", 1, ((0,), (1,))))
        store = (((1, -7), (1, -2), (2, -9)), ((3, 4),))
        before = copy.deepcopy((book, store))
        first = chase((2, 2), book, store)
        self.assertEqual(chase((2, 2), book, store), first)
        self.assertEqual((book, store), before)
        self.assertEqual(chase((2, 2), book, first), first)

    def test_larger_stores(self):
        book = (("settles", 0, (0,), (1,)), ("within", 0, (1,), 1, (0,)), ("settles", 1, (1,), (0,)))
        store = (tuple(sorted((k // 2, -1 - k) for k in range(200))), ())
        found = chase((2, 2), book, store)
        self.assertEqual([len(rows) for rows in found], [100, 100])
        self.assertIs(keeps_all((2, 2), found, book), True)


class SureTest(unittest.TestCase):
    def test_rows_of_known_values_alone(self):
        book = (("settles", 0, (0,), (1,)), ("within", 0, (1,), 1, (0,)))
        self.assertEqual(sure_rows((2, 2), book, (((1, -5), (1, 4), (2, -1)), ((3, 4), (3, 5)))),
                         (((1, 4),), ((3, 4), (3, 5))))
        self.assertEqual(sure_rows((1, 1), (("within", 0, (0,), 1, (0,)),), (((-1,), (9,)), ((3,),))),
                         (((9,),), ((3,), (9,))))
        self.assertEqual(sure_rows((2,), (), ((),)), ((),))

    def test_zero_is_known(self):
        self.assertEqual(sure_rows((1,), (), (((-1,), (0,)),)), (((0,),),))

    def test_ascending_with_joined_rows(self):
        rows = ((3, 0, 5), (4, 0, 1), (9, -1, 2))
        self.assertEqual(sure_rows((3,), (("joins", 0, ((0, 1), (1, 2))),), (rows,)),
                         (((3, 0, 1), (3, 0, 5), (4, 0, 1), (4, 0, 5)),))

    def test_sure_rows_are_in_every_small_completing_store(self):
        rows = tuple(product(range(2), repeat=2))
        stores = [(tuple(row for at, row in enumerate(rows) if bits >> at & 1),) for bits in range(16)]
        chance = random.Random(15)
        for _ in range(150):
            book = some_book(chance, (2,), 3)
            store = some_store(chance, (2,), 3, -2, 1)
            sure = sure_rows((2,), book, store)
            completing = [one for one in stores if keeps_all((2,), one, book) and completes(store, one)]
            if sure is None:
                self.assertEqual(completing, [])
            for one in completing:
                self.assertLessEqual(set(sure[0]), set(one[0]))


class JudgeTest(unittest.TestCase):
    scheme = (2, 2)
    book = (("settles", 0, (0,), (1,)), ("deals", 0, (), (0,)), ("within", 0, (1,), 1, (0,)),
            ("joins", 1, ((0,), (1,))))
    store = (((1, -5), (1, 2), (2, 3)), ((2, 2),))
    equal = ("equal", 0, (1, -5), (1, 2))
    row = ("row", 1, ((1, 2), (2, 3)))
    end = ("equal", 0, (1, 2), (1, 3))

    def told(self, steps, right, store=None):
        store = self.store if store is None else store
        self.assertIs(judge_clash(self.scheme, self.book, store, steps), right, steps)
        self.assertIs(plain_judge_clash(self.scheme, self.book, store, steps), right, steps)

    def test_right_steps(self):
        self.told((self.row, self.end), True)
        self.told((self.row, ("equal", 0, (1, 3), (1, 2))), True)
        self.told((self.equal, self.row, self.end), True)
        self.told((self.row, self.equal, self.end), True)
        self.told((("put", 2, (2, 3)), self.row, ("row", 3, ((2, 2), (3, -1))), self.end), True)

    def test_no_steps_and_no_clash_at_the_end(self):
        self.told((), False)
        self.told((self.equal,), False)
        self.told((self.row,), False)
        self.told((self.equal, self.row), False)

    def test_a_clash_before_the_last_step(self):
        self.told((self.row, self.end, self.equal), False)
        self.told((self.row, self.end, self.end), False)
        self.told((self.row, self.end, ("put", 2, (2, 3))), False)

    def test_numbers_that_no_dependency_has(self):
        for index in (4, -1, -4, LONG, -LONG):
            self.told((("equal", index, (1, -5), (1, 2)), self.row, self.end), False)
            self.told((("row", index, ((1, 2), (2, 3))), self.end), False)
            self.told((("put", index, (2, 3)), self.row, self.end), False)
            self.told((self.row, ("equal", index, (1, 2), (1, 3))), False)

    def test_another_kind_than_that_of_the_dependency(self):
        for index in (1, 2, 3):
            self.told((("equal", index, (1, -5), (1, 2)), self.row, self.end), False)
        for index in (0, 2, 3):
            self.told((("row", index, ((1, 2), (2, 3))), self.end), False)
        for index in (0, 1, 3):
            self.told((("put", index, (2, 3)), self.row, self.end), False)

    def test_rows_that_are_not_there(self):
        for row in ((), (1,), (1, 4), (1, 2, 3), (LONG, -LONG), (2, 2)):
            self.told((("equal", 0, (1, -5), row), self.row, self.end), False)
            self.told((("equal", 0, row, (1, -5)), self.row, self.end), False)
            self.told((("put", 2, row), self.row, self.end), False)
            self.told((("row", 1, ((1, 2), row)), self.row, self.end), False)
            self.told((("row", 1, (row, (1, 2))), self.row, self.end), False)
            self.told((self.row, ("equal", 0, row, (1, 3))), False)
        # The row is only there once it has been put in, and no longer when it has changed.
        self.told((self.end,), False)
        self.told((self.equal, ("put", 2, (1, -5)), self.row, self.end), False)

    def test_too_many_and_too_few_rows(self):
        for rows in ((), ((1, 2),), ((1, 2), (2, 3), (2, 3)), ((1, 2), (1, 2)), ((1, 2), (2, 3), ())):
            self.told((("row", 1, rows), self.row, self.end), False)
            self.told((("row", 3, rows), self.row, self.end), False)

    def test_rows_that_are_no_breach(self):
        self.told((("equal", 0, (1, 2), (2, 3)), self.row, self.end), False)
        self.told((("equal", 0, (1, 2), (1, 2)), self.row, self.end), False)
        self.told((self.equal, self.equal, self.row, self.end), False)
        self.told((("row", 1, ((1, 2), (1, -5))), self.row, self.end), False)
        self.told((self.row, self.row, self.end), False)
        self.told((("put", 2, (1, 2)), self.row, self.end), False)
        self.told((("put", 2, (2, 3)), ("put", 2, (2, 3)), self.row, self.end), False)

    def test_rows_that_do_not_agree_on_left(self):
        self.told((("equal", 0, (1, 2), (2, 3)),), False)
        self.told((("equal", 0, (2, 3), (1, 2)),), False)

    def test_rows_that_do_not_agree(self):
        scheme = (3,)
        book = (("deals", 0, (0,), (1,)), ("joins", 0, ((0, 1), (1, 2))), ("settles", 0, (0,), (1,)))
        store = (((1, 2, 3), (1, 4, 3), (2, 2, 6)),)
        end = ("equal", 2, (1, 2, 3), (1, 4, 3))
        for step in (("row", 0, ((1, 2, 3), (2, 2, 6))), ("row", 1, ((1, 4, 3), (2, 2, 6)))):
            self.assertIs(judge_clash(scheme, book, store, (step, end)), False)
        self.assertIs(judge_clash(scheme, book, store, (("row", 1, ((1, 2, 3), (2, 2, 6))), end)), True)

    def test_the_first_unlike_column_of_right_counts(self):
        scheme = (3,)
        book = (("settles", 0, (0,), (1, 2)),)
        step = ("equal", 0, (1, 2, -1), (1, 3, -2))
        self.assertIs(judge_clash(scheme, book, (((1, 2, -1), (1, 3, -2)),), (step,)), True)
        step = ("equal", 0, (1, -2, 2), (1, -1, 3))
        self.assertIs(judge_clash(scheme, book, (((1, -2, 2), (1, -1, 3)),), (step,)), False)
        steps = (step, ("equal", 0, (1, -1, 2), (1, -1, 3)))
        self.assertIs(judge_clash(scheme, book, (((1, -2, 2), (1, -1, 3)),), steps), True)

    def test_new_values_of_a_put(self):
        scheme = (1, 3)
        book = (("within", 0, (0,), 1, (1,)), ("settles", 1, (), (1,)))
        store = (((-3,), (4,), (5,)), ())
        puts = (("put", 0, (4,)), ("put", 0, (5,)))
        self.assertIs(judge_clash(scheme, book, store, puts + (("equal", 1, (-1, 4, -2), (-4, 5, -5)),)), True)
        self.assertIs(judge_clash(scheme, book, store, puts + (("equal", 1, (-1, 4, -2), (-3, 5, -4)),)), False)
        self.assertIs(judge_clash(scheme, book, store, puts[::-1] + (("equal", 1, (-1, 5, -2), (-4, 4, -5)),)), True)


class ClashTest(unittest.TestCase):
    def test_no_clash(self):
        self.assertIsNone(clash((2,), (), (((1, 2), (1, 3)),)))
        self.assertIsNone(clash((2,), (("settles", 0, (0,), (1,)),), (((1, -2), (1, 3)),)))

    def test_a_clash_at_once(self):
        book = (("settles", 0, (0,), (1,)),)
        steps = clash((2,), book, (((1, 2), (1, 3)),))
        self.assertEqual([step[:2] for step in steps], [("equal", 0)])
        self.assertIs(judge_clash((2,), book, (((1, 2), (1, 3)),), steps), True)

    def test_zero_is_known(self):
        book = (("settles", 0, (0,), (1,)),)
        store = (((0, 0), (0, 3)),)
        self.assertIsNone(chase((2,), book, store))
        self.assertIs(judge_clash((2,), book, store, (("equal", 0, (0, 0), (0, 3)),)), True)
        self.assertIs(judge_clash((2,), book, store, clash((2,), book, store)), True)

    def test_long_values(self):
        book = (("settles", 0, (0,), (1,)),)
        store = (((-LONG, -LONG - 1), (-LONG, LONG), (-LONG, LONG + 1)),)
        steps = clash((2,), book, store)
        self.assertIs(judge_clash((2,), book, store, steps), True)

    def test_chases_taken_by_chance_agree(self):
        chance = random.Random(16)
        seen = {"clash": 0, "no clash": 0, "kept": 0}
        for _ in range(400):
            scheme = tuple(chance.randint(1, 3) for _ in range(chance.randint(1, 3)))
            book = some_book(chance, scheme, 4)
            store = some_store(chance, scheme, 3, -3, 2)
            steps, plain = self.some_chase(chance, scheme, book, store)
            if steps is None:
                continue
            if steps and plain.step(steps[-1]) == "clash":
                seen["clash"] += 1
                self.check_clash(scheme, book, store, steps)
            else:
                seen["no clash"] += 1
                self.check_end(scheme, book, store, plain)
                if keeps_all(scheme, store, book):
                    seen["kept"] += 1
                    self.assertEqual(chase(scheme, book, store), store)
        self.assertGreater(min(seen.values()), 10)

    def some_chase(self, chance, scheme, book, store):
        """Steps taken by chance; the last one is carried out only if it is no clash."""
        plain = PlainChase(scheme, book, store)
        steps = []
        while len(steps) < 30:
            possible = plain.steps()
            if not possible:
                return steps, plain
            steps.append(chance.choice(possible))
            if plain.step(steps[-1]) == "clash":
                return steps, plain
        return None, plain

    def check_clash(self, scheme, book, store, steps):
        self.assertIsNone(chase(scheme, book, store))
        self.assertIsNone(sure_rows(scheme, book, store))
        self.assertIs(judge_clash(scheme, book, store, tuple(steps)), True)
        self.assertIs(judge_clash(scheme, book, store, tuple(steps[:-1])), False)
        shown = clash(scheme, book, store)
        self.assertIsInstance(shown, tuple)
        self.assertIs(plain_judge_clash(scheme, book, store, shown), True)
        self.assertIs(judge_clash(scheme, book, store, shown), True)
        for at in range(len(shown)):
            without = shown[:at] + shown[at + 1:]
            self.assertIs(judge_clash(scheme, book, store, without),
                          plain_judge_clash(scheme, book, store, without))

    def check_end(self, scheme, book, store, plain):
        end = chase(scheme, book, store)
        self.assertIsNone(clash(scheme, book, store))
        self.assertIsNone(check_store(scheme, end))
        self.assertIs(keeps_all(scheme, end, book), True)
        known = tuple(tuple(row for row in rows if min(row) >= 0) for rows in plain.result())
        self.assertEqual(sure_rows(scheme, book, store), known)
        if sum(len(rows) for rows in end) < 6 and sum(len(rows) for rows in store) < 5:
            self.assertTrue(completes(store, end))
