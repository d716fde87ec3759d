"""Points [33] and [34]: books alike, lean books, supports and all inclusions."""

import copy
import random
import unittest
from itertools import permutations

from norowstray.books import alike, all_inclusions, lean_book, supports
from norowstray.following import follows
from tests.plain import all_sets, minimal, plain_follows, some_book, some_dependency

CHAIN = (("settles", 0, (0,), (1,)), ("settles", 0, (1,), (2,)), ("settles", 0, (0,), (2,)))
NOTHING = (("settles", 0, (0, 1), (1,)), ("deals", 0, (0,), (1, 2)), ("deals", 0, (1,), ()),
           ("joins", 0, ((0, 1), (0, 1, 2))))


def told_lean(scheme, book, asked):
    kept = list(enumerate(book))
    for at in range(len(book) - 1, -1, -1):
        others = [pair for pair in kept if pair[0] != at]
        if asked(scheme, tuple(one for _, one in others), book[at]):
            kept = others
    return tuple(one for _, one in kept)


def told_supports(scheme, book, dependency, asked):
    return minimal([numbers for numbers in all_sets(range(len(book)))
                    if asked(scheme, tuple(book[at] for at in numbers), dependency)])


def told_inclusions(scheme, book, table, other, asked):
    pairs = [(columns, others) for columns in all_sets(range(scheme[table])) if columns
             for others in permutations(range(scheme[other]), len(columns))]
    held = [pair for pair in pairs if asked(scheme, book, ("within", table, pair[0], other, pair[1]))]
    return tuple(sorted(held, key=lambda pair: (len(pair[0]), pair)))


class AlikeTest(unittest.TestCase):
    def test_in_another_order(self):
        for order in permutations(CHAIN):
            self.assertIs(alike((3,), CHAIN, order), True)

    def test_a_dependency_twice(self):
        self.assertIs(alike((3,), CHAIN, CHAIN + CHAIN[:1]), True)
        self.assertIs(alike((3,), CHAIN[:1] * 3, CHAIN[:1]), True)

    def test_dependencies_that_say_nothing(self):
        self.assertIs(alike((3,), CHAIN, NOTHING + CHAIN), True)
        self.assertIs(alike((3,), (), NOTHING), True)
        self.assertIs(alike((3,), NOTHING, ()), True)
        self.assertIs(alike((3,), (), ()), True)

    def test_what_follows_may_be_left_out(self):
        self.assertIs(alike((3,), CHAIN, CHAIN[:2]), True)
        self.assertIs(alike((3,), (("joins", 0, ((0, 1), (1, 2))),), (("deals", 0, (1,), (0,)),)), True)
        self.assertIs(alike((3,), (("settles", 0, (0,), (1, 2)),),
                            (("settles", 0, (0,), (1,)), ("settles", 0, (0,), (2,)))), True)

    def test_unlike_either_way(self):
        self.assertIs(alike((3,), CHAIN[:1], CHAIN[:2]), False)
        self.assertIs(alike((3,), CHAIN[:2], CHAIN[:1]), False)
        self.assertIs(alike((3,), (), CHAIN[:1]), False)
        self.assertIs(alike((3,), CHAIN[:1], ()), False)
        self.assertIs(alike((3,), (("deals", 0, (0,), (1,)),), CHAIN[:1]), False)
        self.assertIs(alike((3,), CHAIN[:1], CHAIN[1:2]), False)

    def test_rings_between_the_books(self):
        self.assertIs(alike((1, 1), (("within", 0, (0,), 1, (0,)),), (("within", 1, (0,), 0, (0,)),)), False)

    def test_other_tables(self):
        scheme = (2, 2, 2)
        book = (("within", 0, (0, 1), 1, (0, 1)), ("within", 1, (0, 1), 2, (1, 0)), ("settles", 2, (1,), (0,)))
        more = (("within", 0, (1,), 2, (0,)), ("settles", 0, (0,), (1,)), ("settles", 1, (0,), (1,)))
        self.assertIs(alike(scheme, book, more + book), True)
        self.assertIs(alike(scheme, book, book + (("settles", 0, (1,), (0,)),)), False)


class LeanBookTest(unittest.TestCase):
    def test_from_the_last_one_to_the_first_one(self):
        self.assertEqual(lean_book((3,), CHAIN), CHAIN[:2])
        self.assertEqual(lean_book((3,), CHAIN[::-1]), (CHAIN[1], CHAIN[0]))
        ring = (("settles", 0, (0,), (1,)), ("settles", 0, (1,), (0,)), ("settles", 0, (0,), (2,)),
                ("settles", 0, (1,), (2,)))
        self.assertEqual(lean_book((3,), ring), ring[:3])
        self.assertEqual(lean_book((3,), ring[::-1]), ring[3:] + ring[1::-1])

    def test_equal_ones_and_those_that_say_nothing(self):
        self.assertEqual(lean_book((3,), CHAIN[:1] * 4), CHAIN[:1])
        self.assertEqual(lean_book((3,), NOTHING), ())
        self.assertEqual(lean_book((3,), CHAIN[:1] + NOTHING + CHAIN[1:2]), CHAIN[:2])
        self.assertEqual(lean_book((3,), ()), ())

    def test_one_of_two_that_say_the_same_stays(self):
        join, deal = ("joins", 0, ((0, 1), (1, 2))), ("deals", 0, (1,), (0,))
        self.assertEqual(lean_book((3,), (join, deal)), (join,))
        self.assertEqual(lean_book((3,), (deal, join)), (deal,))

    def test_by_chance(self):
        chance = random.Random(81)
        shorter = 0
        for _ in range(150):
            scheme = tuple(chance.randint(1, 4) for _ in range(chance.randint(1, 3)))
            book = some_book(chance, scheme, 6)
            lean = lean_book(scheme, book)
            self.assertEqual(lean, told_lean(scheme, book, follows))
            self.assertIs(alike(scheme, lean, book), True)
            shorter += 0 < len(lean) < len(book)
        self.assertGreater(shorter, 40)

    def test_by_chance_against_the_plain_words(self):
        chance = random.Random(82)
        for _ in range(200):
            scheme = tuple(chance.randint(1, 3) for _ in range(chance.randint(1, 2)))
            book, other = some_book(chance, scheme, 3), some_book(chance, scheme, 2)
            self.assertEqual(lean_book(scheme, book), told_lean(scheme, book, plain_follows))
            both = all(plain_follows(scheme, one, d) for one, two in ((book, other), (other, book)) for d in two)
            self.assertIs(alike(scheme, book, other), both)

    def test_at_the_bounds(self):
        book = tuple(("settles", 0, (c,), (c + 1,)) for c in range(6))
        more = tuple(("settles", 0, (c,), (d,)) for c in range(3) for d in range(c + 2, 7))
        self.assertEqual(lean_book((7,), book + more[:14]), book)
        self.assertIs(alike((7,), book + more[:14], book[::-1]), True)


class SupportsTest(unittest.TestCase):
    def test_ordinary(self):
        self.assertEqual(supports((3,), CHAIN, ("settles", 0, (0,), (2,))), ((2,), (0, 1)))
        self.assertEqual(supports((3,), CHAIN, ("settles", 0, (0,), (1, 2))), ((0, 1), (0, 2)))

    def test_of_what_follows_from_the_empty_book(self):
        for dependency in NOTHING:
            self.assertEqual(supports((3,), CHAIN, dependency), ((),))
            self.assertEqual(supports((3,), (), dependency), ((),))

    def test_of_what_does_not_follow(self):
        self.assertEqual(supports((3,), CHAIN, ("settles", 0, (2,), (0,))), ())
        self.assertEqual(supports((3,), (), ("settles", 0, (0,), (1,))), ())
        self.assertEqual(supports((1, 1), (("within", 0, (0,), 1, (0,)),), ("within", 1, (0,), 0, (0,))), ())

    def test_equal_dependencies_have_different_numbers(self):
        self.assertEqual(supports((3,), CHAIN[:1] * 3, CHAIN[0]), ((0,), (1,), (2,)))
        book = CHAIN[:1] + CHAIN[:2] + CHAIN[1:2]
        self.assertEqual(supports((3,), book, CHAIN[2]), ((0, 2), (0, 3), (1, 2), (1, 3)))

    def test_fewer_numbers_first(self):
        book = (CHAIN[1], CHAIN[0], ("settles", 0, (), (2,)), CHAIN[2])
        self.assertEqual(supports((3,), book, CHAIN[2]), ((2,), (3,), (0, 1)))

    def test_inclusions(self):
        scheme = (1, 1, 1)
        book = (("within", 0, (0,), 1, (0,)), ("within", 0, (0,), 2, (0,)), ("within", 1, (0,), 2, (0,)))
        self.assertEqual(supports(scheme, book, ("within", 0, (0,), 2, (0,))), ((1,), (0, 2)))

    def test_by_chance(self):
        chance = random.Random(83)
        many = 0
        for _ in range(300):
            scheme = tuple(chance.randint(2, 4) for _ in range(chance.randint(1, 2)))
            order = chance.sample(range(len(scheme)), len(scheme))
            book = tuple(some_dependency(chance, scheme, order) for _ in range(chance.randint(3, 6)))
            dependency = some_dependency(chance, scheme, order)
            told = supports(scheme, book, dependency)
            self.assertEqual(told, told_supports(scheme, book, dependency, follows))
            many += len(told) > 1
        self.assertGreater(many, 10)

    def test_by_chance_against_the_plain_words(self):
        chance = random.Random(84)
        for _ in range(100):
            width = chance.randint(2, 3)
            book = some_book(chance, (width,), 4)
            dependency = some_dependency(chance, (width,), [0])
            self.assertEqual(supports((width,), book, dependency),
                             told_supports((width,), book, dependency, plain_follows))

    def test_seven_dependencies(self):
        book = tuple(("settles", 0, (c,), (c + 1,)) for c in range(6)) + (("settles", 0, (0,), (6,)),)
        self.assertEqual(supports((7,), book, ("settles", 0, (0,), (6,))), ((6,), (0, 1, 2, 3, 4, 5)))
        self.assertEqual(supports((7,), book, ("settles", 0, (6,), (0,))), ())


class AllInclusionsTest(unittest.TestCase):
    def test_ordinary(self):
        book = (("within", 0, (2, 0), 1, (0, 1)),)
        self.assertEqual(all_inclusions((3, 2), book, 0, 1), (((0,), (1,)), ((2,), (0,)), ((0, 2), (1, 0))))
        self.assertEqual(all_inclusions((3, 2), book, 1, 0), ())

    def test_tables_without_any(self):
        self.assertEqual(all_inclusions((2, 2), (), 0, 1), ())
        self.assertEqual(all_inclusions((2, 2), (("settles", 0, (), (0, 1)), ("settles", 1, (), (0, 1))), 0, 1), ())
        book = (("within", 0, (0,), 2, (0,)), ("within", 1, (0,), 2, (0,)))
        self.assertEqual(all_inclusions((1, 1, 1), book, 0, 1), ())

    def test_fewer_columns_first_and_others_in_any_order(self):
        book = (("within", 0, (1,), 1, (1,)), ("within", 0, (0, 1), 1, (2, 0)))
        self.assertEqual(all_inclusions((2, 3), book, 0, 1),
                         (((0,), (2,)), ((1,), (0,)), ((1,), (1,)), ((0, 1), (2, 0))))

    def test_two_inclusions_are_not_one(self):
        book = (("within", 0, (0,), 1, (0,)), ("within", 0, (1,), 1, (1,)))
        self.assertEqual(all_inclusions((2, 2), book, 0, 1), (((0,), (0,)), ((1,), (1,))))

    def test_a_table_in_between(self):
        book = (("within", 1, (0, 1, 2), 2, (1, 2, 0)), ("within", 0, (0, 1), 1, (2, 0)))
        self.assertEqual(all_inclusions((2, 3, 3), book, 0, 2), (((0,), (0,)), ((1,), (1,)), ((0, 1), (0, 1))))

    def test_through_settles_dependencies(self):
        # Both rows of the other table have the same value in column 0, so they are one.
        book = (("within", 0, (0, 1), 1, (0, 1)), ("within", 0, (0, 2), 1, (0, 2)), ("settles", 1, (0,), (1, 2)))
        self.assertEqual(all_inclusions((3, 3), book, 0, 1)[-1], ((0, 1, 2), (0, 1, 2)))
        self.assertEqual(all_inclusions((3, 3), book[:2], 0, 1)[-1], ((0, 2), (0, 2)))

    def test_columns_that_have_the_same_values(self):
        # What stands in both columns of the first table is the one value of a third table.
        book = (("within", 0, (0,), 2, (0,)), ("within", 0, (1,), 2, (0,)), ("settles", 2, (), (0,)),
                ("within", 0, (0,), 1, (0,)))
        self.assertEqual(all_inclusions((2, 1, 1), book, 0, 1), (((0,), (0,)), ((1,), (0,))))
        self.assertEqual(all_inclusions((2, 1, 1), book[:2] + book[3:], 0, 1), (((0,), (0,)),))

    def test_through_joins(self):
        book = (("within", 0, (0,), 1, (0,)), ("within", 0, (1,), 1, (1,)), ("joins", 1, ((0,), (1,))))
        self.assertEqual(all_inclusions((2, 2), book, 0, 1), (((0,), (0,)), ((1,), (1,)), ((0, 1), (0, 1))))

    def test_by_chance(self):
        chance = random.Random(85)
        longest = found = 0
        for _ in range(900):
            scheme = tuple(chance.randint(1, 3) for _ in range(chance.randint(2, 4)))
            book = some_book(chance, scheme, 7)
            table, other = chance.sample(range(len(scheme)), 2)
            told = all_inclusions(scheme, book, table, other)
            self.assertEqual(told, told_inclusions(scheme, book, table, other, follows))
            found += told != ()
            longest = max([longest] + [len(columns) for columns, _ in told])
        self.assertGreater(found, 100)
        self.assertEqual(longest, 3)

    def test_by_chance_against_the_plain_words(self):
        chance = random.Random(86)
        for _ in range(400):
            scheme = tuple(chance.randint(1, 2) for _ in range(3))
            book = some_book(chance, scheme, 4)
            table, other = chance.sample(range(3), 2)
            self.assertEqual(all_inclusions(scheme, book, table, other),
                             told_inclusions(scheme, book, table, other, plain_follows))

    def test_as_many_as_there_can_be(self):
        # All columns of both tables have one value.
        book = (("within", 0, tuple(range(7)), 1, tuple(range(7))), ("settles", 2, (), (0,)))
        book += tuple(("within", 0, (c,), 2, (0,)) for c in range(7))
        self.assertEqual(len(all_inclusions((7, 7, 1), book, 0, 1)), 130921)
        self.assertEqual(len(all_inclusions((7, 7, 1), book[:1], 0, 1)), 127)


class CallsTest(unittest.TestCase):
    def test_the_same_answer_again_and_arguments_as_they_were(self):
        scheme = (3, 2)
        book = CHAIN + (("within", 0, (0, 2), 1, (0, 1)),)
        before = copy.deepcopy((scheme, book))
        for ask in (lambda b: alike(scheme, b, CHAIN + book[3:]), lambda b: lean_book(scheme, b),
                    lambda b: supports(scheme, b, CHAIN[2]), lambda b: all_inclusions(scheme, b, 0, 1)):
            first = ask(book)
            self.assertNotEqual(ask(CHAIN[1:2]), first)
            self.assertEqual(ask(book), first)
        self.assertEqual((scheme, book), before)
