"""Points [17] to [21]: starts, verdicts, derivations and their judge."""

import copy
import random
import unittest
from itertools import combinations, product

from norowstray.following import follows, judge, lean_derivation, start, verdict
from norowstray.holding import keeps, keeps_all
from norowstray.schemes import check_store, says_nothing
from tests.helpers import LONG
from tests.plain import (PlainChase, plain_judge, plain_lean, plain_met, plain_start, some_book, some_dependency,
                         some_set)


class StartTest(unittest.TestCase):
    def test_example_of_the_interface(self):
        self.assertEqual(start((3,), ("settles", 0, (1,), (0,))), (((-4, -2, -6), (-1, -2, -3)),))

    def test_settles(self):
        self.assertEqual(start((2,), ("settles", 0, (), (0,))), (((-3, -4), (-1, -2)),))
        self.assertEqual(start((2,), ("settles", 0, (0, 1), (0,))), (((-1, -2),),))
        self.assertEqual(start((1, 2, 1), ("settles", 1, (0,), ())), ((), ((-1, -4), (-1, -2)), ()))

    def test_joins(self):
        self.assertEqual(start((3,), ("joins", 0, ((0, 1), (1, 2), (0, 2)))),
                         (((-7, -2, -3), (-1, -11, -3), (-1, -2, -6)),))
        self.assertEqual(start((2,), ("joins", 0, ((0, 1),))), (((-1, -2),),))
        self.assertEqual(start((2,), ("joins", 0, ((0, 1), (0,), (0, 1)))), (((-1, -6), (-1, -2)),))
        self.assertEqual(start((2,), ("joins", 0, ((0,), (0,), (1,)))), (((-7, -2), (-1, -6), (-1, -4)),))

    def test_deals(self):
        self.assertEqual(start((3,), ("deals", 0, (0,), (1,))), (((-1, -8, -3), (-1, -2, -6)),))
        self.assertEqual(start((3,), ("deals", 0, (), (1,))), (((-4, -2, -6), (-1, -8, -3)),))
        self.assertEqual(start((3,), ("deals", 0, (0,), (0, 1))), (((-1, -8, -3), (-1, -2, -6)),))

    def test_deals_with_an_empty_part(self):
        # The first part is empty, and the second one has all columns.
        self.assertEqual(start((2,), ("deals", 0, (), ())), (((-3, -4), (-1, -2)),))
        # The first part has all columns, and the second one is empty.
        self.assertEqual(start((2,), ("deals", 0, (), (0, 1))), (((-5, -6), (-1, -2)),))

    def test_deals_with_rows_that_are_the_same(self):
        self.assertEqual(start((2,), ("deals", 0, (0, 1), ())), (((-1, -2),),))
        self.assertEqual(start((2,), ("deals", 0, (0, 1), (1,))), (((-1, -2),),))

    def test_within(self):
        self.assertEqual(start((2, 3), ("within", 1, (2,), 0, (0,))), ((), ((-1, -2, -3),)))

    def test_by_chance_against_the_plain_words(self):
        chance = random.Random(18)
        for _ in range(1000):
            scheme = tuple(chance.randint(1, 7) for _ in range(chance.randint(1, 4)))
            order = chance.sample(range(len(scheme)), len(scheme))
            dependency = some_dependency(chance, scheme, order)
            self.assertEqual(start(scheme, dependency), plain_start(scheme, dependency))


class FollowsTest(unittest.TestCase):
    def told(self, scheme, book, dependency, right):
        self.assertIs(follows(scheme, book, dependency), right, (book, dependency))
        told, shown = verdict(scheme, book, dependency)
        self.assertEqual(told, "follows" if right else "stray")
        if right:
            self.assertIsInstance(shown, tuple)
            self.assertIs(judge(scheme, book, dependency, shown), True)
            self.assertIs(plain_judge(scheme, book, dependency, shown), True)
        else:
            self.assertIsNone(check_store(scheme, shown))
            self.assertTrue(all(value >= 0 for rows in shown for row in rows for value in row))
            self.assertIs(keeps_all(scheme, shown, book), True)
            self.assertIs(keeps(scheme, shown, dependency), False)

    def test_example_of_the_interface(self):
        book = (("deals", 0, (0,), (1,)), ("settles", 0, (1,), (2,)))
        self.told((3,), book, ("settles", 0, (0,), (2,)), True)
        self.told((3,), book, ("settles", 0, (0,), (1,)), False)

    def test_settles_alone(self):
        book = (("settles", 0, (0,), (1,)), ("settles", 0, (1, 2), (3,)))
        for left, right, told in (((0, 2), (3,), True), ((0,), (1,), True), ((0, 2), (0, 1, 2, 3), True),
                                  ((0,), (3,), False), ((1,), (0,), False), ((0, 3), (2,), False),
                                  ((0, 2), (1, 3), True), ((0,), (1, 2), False), ((), (0,), False)):
            self.told((4,), book, ("settles", 0, left, right), told)

    def test_deals(self):
        book = (("deals", 0, (0,), (1,)),)
        for left, right, told in (((0,), (2, 3), True), ((0,), (1,), True), ((0,), (0, 1), True), ((0,), (2,), False),
                                  ((0, 2), (1,), True), ((0, 2), (3,), True), ((1,), (0,), False), ((), (1,), False),
                                  ((0,), (1, 2), False), ((0,), (), True)):
            self.told((4,), book, ("deals", 0, left, right), told)
        self.told((4,), book, ("settles", 0, (0,), (1,)), False)
        self.told((4,), book, ("joins", 0, ((0, 1), (0, 2, 3))), True)
        self.told((4,), book, ("joins", 0, ((0, 1), (0, 2), (0, 3))), False)
        self.told((4,), (("settles", 0, (0,), (1,)),), ("deals", 0, (0,), (1,)), True)

    def test_joins(self):
        around = ("joins", 0, ((0, 1), (1, 2), (0, 2)))
        halves = ("joins", 0, ((0, 1), (1, 2)))
        self.told((3,), (halves,), around, True)
        self.told((3,), (around,), halves, False)
        self.told((3,), (around, ("settles", 0, (1,), (2,))), halves, True)
        self.told((3,), (("deals", 0, (1,), (0,)),), halves, True)
        self.told((3,), (halves,), ("deals", 0, (1,), (2,)), True)
        self.told((3,), (around,), ("deals", 0, (1,), (2,)), False)

    def test_inclusions(self):
        scheme = (2, 2, 2)
        book = (("within", 0, (0, 1), 1, (1, 0)), ("within", 1, (1, 0), 2, (0, 1)))
        self.told(scheme, book, ("within", 0, (0, 1), 2, (0, 1)), True)
        self.told(scheme, book, ("within", 0, (1,), 2, (1,)), True)
        self.told(scheme, book, ("within", 0, (1, 0), 2, (1, 0)), True)
        self.told(scheme, book, ("within", 0, (0, 1), 2, (1, 0)), False)
        self.told(scheme, book, ("within", 0, (0,), 2, (1,)), False)
        self.told(scheme, (), ("within", 0, (0,), 1, (0,)), False)

    def test_a_ring_with_the_book(self):
        scheme = (1, 2, 1)
        book = (("within", 0, (0,), 1, (0,)), ("within", 1, (1,), 2, (0,)))
        self.told(scheme, book, ("within", 1, (0,), 0, (0,)), False)
        self.told(scheme, book, ("within", 2, (0,), 0, (0,)), False)
        self.told(scheme, book, ("within", 2, (0,), 1, (1,)), False)
        self.told(scheme, book, ("within", 1, (0,), 2, (0,)), False)

    def test_tables_tell_of_each_other(self):
        scheme = (2, 3)
        book = (("within", 0, (0, 1), 1, (2, 0)), ("settles", 1, (2,), (0,)))
        self.told(scheme, book, ("settles", 0, (0,), (1,)), True)
        self.told(scheme, book, ("settles", 0, (1,), (0,)), False)
        self.told(scheme, book[:1], ("settles", 0, (0,), (1,)), False)
        # Two inclusions of one table lead to one row, as the first column is settled by none.
        book = (("within", 0, (0,), 1, (0,)), ("within", 0, (0, 1), 1, (0, 1)), ("settles", 1, (0,), (1, 2)))
        self.told((2, 3), book, ("settles", 0, (0,), (1,)), True)

    def test_met_at_the_start(self):
        for dependency in (("settles", 0, (0, 1), (1,)), ("settles", 0, (), ()), ("deals", 0, (), ()),
                           ("deals", 0, (), (0, 1, 2)), ("deals", 0, (0,), (1, 2)), ("joins", 0, ((0,), (0, 1, 2)))):
            self.assertEqual(verdict((3,), (), dependency), ("follows", ()))
            self.assertIs(judge((3,), (), dependency, ()), True)
            self.assertEqual(lean_derivation((3,), (), dependency, ()), ())
            self.told((3,), (("settles", 0, (0,), (1,)),), dependency, True)

    def test_what_says_nothing_alone_follows_from_nothing(self):
        chance = random.Random(17)
        for _ in range(200):
            dependency = some_dependency(chance, (4, 3), [0, 1])
            self.told((4, 3), (), dependency, says_nothing((4, 3), dependency))

    def test_arguments_and_asking_again(self):
        book = (("deals", 0, (0,), (1,)), ("settles", 0, (1,), (2,)))
        before = copy.deepcopy(book)
        for wish in (("settles", 0, (0,), (2,)), ("settles", 0, (0,), (1,))):
            self.assertEqual(verdict((3,), book, wish), verdict((3,), book, wish))
        self.assertEqual(book, before)

    def test_no_small_store_breaks_what_follows(self):
        rows = tuple(product(range(2), repeat=3))
        stores = [(chosen,) for many in range(9) for chosen in combinations(rows, many)]
        chance = random.Random(19)
        for _ in range(60):
            book = some_book(chance, (3,), 3)
            kept = [store for store in stores if keeps_all((3,), store, book)]
            for _ in range(3):
                wish = some_dependency(chance, (3,), [0])
                broken = any(not keeps((3,), store, wish) for store in kept)
                # Two values are enough to break a wish "settles" or "deals" that does not follow.
                if wish[0] != "joins" or broken:
                    if all(one[0] != "joins" for one in book) or broken:
                        self.told((3,), book, wish, not broken)

    def test_verdicts_that_need_steps(self):
        chance = random.Random(23)
        lengths = {}
        for _ in range(3000):
            scheme, book, wish = fruitful(chance)
            told, shown = verdict(scheme, book, wish)
            if told == "follows":
                lengths[len(shown)] = lengths.get(len(shown), 0) + 1
                self.assertIs(judge(scheme, book, wish, shown), True)
            else:
                self.assertIs(keeps_all(scheme, shown, book), True)
                self.assertIs(keeps(scheme, shown, wish), False)
        self.assertGreater(sum(many for length, many in lengths.items() if length > 3), 100)

    def test_derivations_do_not_hold_all_rows_of_a_chase(self):
        # The chase has 256 rows at its end.
        wish = ("joins", 0, ((0,), (1,), (2,), (3,)))
        book = tuple(("deals", 0, (), (column,)) for column in range(3))
        self.assertEqual(len(verdict((4,), book, wish)[1]), 3)

    def test_chases_taken_by_chance_agree(self):
        chance = random.Random(20)
        seen = {"at once": 0, "follows": 0, "stray": 0}
        for _ in range(500):
            scheme = tuple(chance.randint(1, 4) for _ in range(chance.randint(1, 3)))
            book = some_book(chance, scheme, 5)
            wish = some_dependency(chance, scheme, chance.sample(range(len(scheme)), len(scheme)))
            steps, met = some_derivation(chance, scheme, book, wish, 25)
            if steps is not None:
                self.told(scheme, book, wish, met)
                seen["stray" if not met else "follows" if steps else "at once"] += 1
        self.assertGreater(min(seen.values()), 10)


def some_derivation(chance, scheme, book, wish, most):
    """Steps taken by chance, and whether they meet the wish; None for the steps if there are too many."""
    plain = PlainChase(scheme, book, plain_start(scheme, wish))
    steps = []
    while not plain_met(scheme, wish, plain):
        possible = plain.steps()
        if not possible:
            return tuple(steps), False
        if len(steps) == most:
            return None, False
        steps.append(chance.choice(possible))
        plain.step(steps[-1])
    return tuple(steps), True


def fruitful(chance):
    """A scheme, a book and a wish that is likely to need some steps."""
    width = chance.randint(3, 4)
    wish = (chance.choice(("settles", "deals")), 0, some_set(chance, width, 0.3), some_set(chance, width, 0.5))
    if chance.random() < 0.3:
        return (width,), tuple(some_side(chance, 0, width) for _ in range(chance.randint(2, 4))), wish
    # What the first table keeps may come from the second one, whose rows get new values.
    scheme = (width, chance.randint(width, width + 1))
    columns = tuple(chance.sample(range(width), chance.randint(2, width)))
    book = [("within", 0, columns, 1, tuple(chance.sample(range(scheme[1]), len(columns))))]
    for _ in range(chance.randint(2, 5)):
        table = chance.randrange(2)
        book.append(some_side(chance, table, scheme[table]))
    chance.shuffle(book)
    if chance.random() < 0.2:
        at = chance.randrange(len(columns))
        wish = ("within", 0, (columns[at],), 1, (chance.randrange(scheme[1]),))
    return scheme, tuple(book), wish


def some_side(chance, table, width):
    """A dependency "settles" or "deals" of a table by chance, with few columns on its left."""
    return chance.choice(("settles", "deals")), table, some_set(chance, width, 0.3), some_set(chance, width, 0.5)


class JudgeTest(unittest.TestCase):
    scheme = (3, 2)
    book = (("deals", 0, (0,), (1,)), ("settles", 0, (1,), (2,)), ("within", 0, (0,), 1, (1,)),
            ("joins", 1, ((0,), (1,))))
    wish = ("settles", 0, (0,), (2,))
    one, other = (-1, -2, -3), (-1, -5, -6)
    row = ("row", 0, (one, other))
    equal = ("equal", 1, (-1, -2, -6), one)
    put = ("put", 2, other)

    def told(self, steps, right):
        self.assertIs(judge(self.scheme, self.book, self.wish, steps), right, steps)
        self.assertIs(plain_judge(self.scheme, self.book, self.wish, steps), right, steps)

    def test_right_derivations(self):
        self.assertEqual(start(self.scheme, self.wish)[0], (self.other, self.one))
        self.told((self.row, self.equal), True)
        self.told((self.row, ("equal", 1, self.one, (-1, -2, -6))), True)
        self.told((("row", 0, (self.other, self.one)), ("equal", 1, (-1, -5, -3), self.other)), True)

    def test_more_steps_than_are_needed(self):
        self.told((self.put, self.row, self.equal), True)
        self.told((self.row, self.put, self.equal), True)
        self.told((self.row, self.equal, ("put", 2, self.one)), True)
        self.told((self.row, ("row", 0, (self.other, self.one)), self.equal, ("put", 2, self.one)), True)

    def test_the_wish_is_not_met(self):
        self.told((), False)
        self.told((self.row,), False)
        self.told((self.put,), False)

    def test_rows_that_do_not_agree_on_left(self):
        # The step would make the values of the wish the same, but it is no breach.
        self.told((("equal", 1, self.one, self.other),), False)
        self.told((("equal", 1, self.other, self.one),), False)

    def test_all_steps_must_be_right(self):
        wrong = [("equal", index, (-1, -2, -6), self.one) for index in (0, 2, 3, 4, -1, -3, LONG, -LONG)]
        wrong += [("row", index, (self.one, self.other)) for index in (1, 2, 3, 4, -4, LONG, -LONG)]
        wrong += [("put", index, self.other) for index in (0, 1, 3, 4, -2, LONG, -LONG)]
        wrong += [("put", 2, row) for row in ((), (-1,), (-1, -2), (-1, -2, -6), (LONG,) * 3, (-1, -2, -3, -4))]
        wrong += [("row", 0, rows) for rows in ((), (self.one,), (self.one, self.one), (self.one, self.other, self.one),
                                                (self.one, ()), ((), self.other), ((-1,), (-1,)))]
        wrong += [("equal", 1, row, other) for row, other in (((), ()), (self.one, ()), (self.one, self.one),
                                                              (self.one, self.other), (self.one, (-1, -2, -6)))]
        for step in wrong:
            self.told((step, self.row, self.equal), False)
            self.told((self.row, self.equal, step), False)

    def test_rows_as_they_are_at_that_time(self):
        self.told((self.equal, self.row), False)
        self.told((self.row, self.row, self.equal), False)
        self.told((self.row, self.equal, self.equal), False)
        # Behind the equal step -6 has become -3.
        self.told((self.row, self.equal, ("put", 2, (-1, -5, -3))), True)
        self.told((self.row, self.equal, ("put", 2, self.other)), False)
        self.told((self.row, self.equal, ("row", 0, (self.other, self.one))), False)

    def test_a_put_that_has_been_made(self):
        self.told((self.put, self.put, self.row, self.equal), False)
        self.told((self.put, ("put", 2, self.one), self.row, self.equal), False)

    def test_a_put_that_is_matched_by_a_row_that_has_changed(self):
        scheme, wish = (2, 3), ("settles", 0, (0,), (1,))
        book = (("within", 0, (0,), 1, (0,)), ("within", 0, (0, 1), 1, (0, 1)), ("settles", 1, (0,), (1, 2)))
        one, other = (-1, -2), (-1, -4)
        ahead = (("put", 0, one), ("put", 1, one), ("equal", 2, (-1, -3, -5), (-1, -2, -6)))
        middle = ("equal", 2, (-1, -2, -5), (-1, -2, -6))
        behind = (("put", 1, other), ("equal", 2, (-1, -4, -7), (-1, -2, -5)))
        for steps, right in ((ahead + (middle,) + behind, True), (ahead + behind, True),
                             (ahead + behind + (("put", 0, one),), False),
                             (ahead + behind + (("put", 1, one),), False),
                             (ahead + (middle,) + behind + (("put", 0, one),), False),
                             (ahead + (middle,) + behind + (("put", 1, one),), False)):
            self.assertIs(judge(scheme, book, wish, steps), right)
            self.assertIs(plain_judge(scheme, book, wish, steps), right)

    def test_nothing_is_a_clash_here(self):
        book = (("settles", 0, (), (0, 1)),)
        wish = ("settles", 0, (), (1,))
        steps = (("equal", 0, (-3, -4), (-1, -2)), ("equal", 0, (-1, -4), (-1, -2)))
        self.assertIs(judge((2,), book, wish, steps), True)
        self.assertIs(judge((2,), book, wish, steps[:1]), False)

    def test_what_was_told_is_meant_of_the_value_that_stays(self):
        # Behind the first step -1 is no more, and the row to find is (0, -2) with the value that stays.
        scheme, wish = (3,), ("deals", 0, (), (0,))
        book = (("settles", 0, (), (0,)),)
        self.assertEqual(start(scheme, wish), (((-7, -2, -3), (-1, -5, -6)),))
        self.assertIs(judge(scheme, book, wish, ()), False)
        self.assertIs(judge(scheme, book, wish, (("equal", 0, (-7, -2, -3), (-1, -5, -6)),)), True)
        scheme, wish = (2, 2), ("within", 0, (0,), 1, (1,))
        book = (("within", 0, (1,), 1, (0,)), ("within", 0, (0, 1), 1, (1, 0)), ("settles", 1, (0,), (1,)))
        steps = (("put", 0, (-1, -2)), ("put", 1, (-1, -2)), ("equal", 2, (-2, -3), (-2, -1)))
        self.assertIs(judge(scheme, book, wish, steps), True)
        self.assertIs(plain_judge(scheme, book, wish, steps), True)

    def test_a_new_value_may_have_a_number_that_the_start_leaves_out(self):
        scheme, wish = (2, 3), ("settles", 0, (0,), (1,))
        book = (("within", 0, (0, 1), 1, (0, 1)), ("settles", 1, (0,), (1,)))
        self.assertEqual(start(scheme, wish)[0], ((-1, -4), (-1, -2)))
        steps = (("put", 0, (-1, -4)), ("put", 0, (-1, -2)), ("equal", 1, (-1, -4, -3), (-1, -2, -5)))
        self.assertIs(judge(scheme, book, wish, steps), True)
        wrong = steps[:2] + (("equal", 1, (-1, -4, -5), (-1, -2, -6)),)
        self.assertIs(judge(scheme, book, wish, wrong), False)

    def test_against_the_plain_judge(self):
        chance = random.Random(21)
        seen = {True: 0, False: 0}
        for _ in range(600):
            scheme, book, wish = fruitful(chance)
            steps, met = some_derivation(chance, scheme, book, wish, 20)
            if not steps:
                continue
            self.assertIs(judge(scheme, book, wish, steps), met)
            for _ in range(4):
                changed = list(steps)
                at = chance.randrange(len(changed))
                way = chance.randrange(3)
                if way == 0:
                    del changed[at]
                elif way == 1:
                    changed[at] = chance.choice(steps)
                else:
                    changed.insert(at, changed.pop(chance.randrange(len(changed))))
                right = plain_judge(scheme, book, wish, changed)
                self.assertIs(judge(scheme, book, wish, tuple(changed)), right)
                seen[right] += 1
        self.assertGreater(min(seen.values()), 50)


class LeanTest(unittest.TestCase):
    def test_leaves_steps_out_from_the_last_to_the_first(self):
        scheme, wish = (3,), ("settles", 0, (0,), (2,))
        book = (("deals", 0, (0,), (1,)), ("settles", 0, (1,), (2,)))
        one, other = (-1, -2, -3), (-1, -5, -6)
        first = (("row", 0, (one, other)), ("equal", 1, one, (-1, -2, -6)))
        second = (("row", 0, (other, one)), ("equal", 1, other, (-1, -5, -3)))
        # Either way alone meets the wish; the one that is told later is left out.
        steps = (first[0], second[0], first[1])
        self.assertEqual(lean_derivation(scheme, book, wish, steps), first)
        steps = (second[0], first[0], first[1])
        self.assertEqual(lean_derivation(scheme, book, wish, steps), first)
        steps = (second[0], first[0], second[1])
        self.assertEqual(lean_derivation(scheme, book, wish, steps), second)
        steps = (second[0], second[1])
        self.assertEqual(lean_derivation(scheme, book, wish, steps), second)

    def test_leaves_out_what_comes_behind_and_before(self):
        scheme, wish = (2, 1), ("settles", 0, (0,), (1,))
        book = (("settles", 0, (0,), (1,)), ("within", 0, (0,), 1, (0,)))
        equal, put = ("equal", 0, (-1, -4), (-1, -2)), ("put", 1, (-1, -2))
        self.assertEqual(lean_derivation(scheme, book, wish, (equal, put)), (equal,))
        self.assertEqual(lean_derivation(scheme, book, wish, (put, equal)), (equal,))

    def test_a_put_stays_if_the_names_of_new_values_need_it(self):
        # Without the first step the row of the second one would have other values.
        scheme, wish = (1, 2, 2, 1), ("within", 0, (0,), 3, (0,))
        book = (("within", 0, (0,), 1, (0,)), ("within", 0, (0,), 2, (0,)), ("within", 2, (0,), 3, (0,)))
        steps = (("put", 0, (-1,)), ("put", 1, (-1,)), ("put", 2, (-1, -3)))
        self.assertIs(judge(scheme, book, wish, steps), True)
        self.assertEqual(lean_derivation(scheme, book, wish, steps), steps)
        steps = (("put", 1, (-1,)), ("put", 0, (-1,)), ("put", 2, (-1, -2)))
        self.assertEqual(lean_derivation(scheme, book, wish, steps), (steps[0], steps[2]))

    def test_against_the_plain_words(self):
        chance = random.Random(22)
        shorter = longer = 0
        for _ in range(400):
            scheme, book, wish = fruitful(chance)
            steps, met = some_derivation(chance, scheme, book, wish, 20)
            if not steps or not met:
                continue
            before = copy.deepcopy(steps)
            lean = lean_derivation(scheme, book, wish, steps)
            self.assertEqual(steps, before)
            self.assertEqual(lean, plain_lean(scheme, book, wish, steps))
            self.assertIs(judge(scheme, book, wish, lean), True)
            shorter += len(lean) < len(steps)
            longer += len(lean) > 2
            told = verdict(scheme, book, wish)[1]
            self.assertEqual(lean_derivation(scheme, book, wish, told), plain_lean(scheme, book, wish, told))
        self.assertGreater(shorter, 10)
        self.assertGreater(longer, 10)
