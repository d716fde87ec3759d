"""Point [39]: derivations by rules."""

import copy
import random
import unittest
from itertools import product

from norowstray.following import follows
from norowstray.rules import derived, judge_rules
from tests.helpers import LONG
from tests.plain import all_sets, plain_follows, some_set

SIZES = {"given": 1, "within": 0, "widen": 1, "widen deals": 1, "through": 2, "through deals": 2, "rest": 1, "deal": 1,
         "meet": 2}


def settles(left, right):
    return "settles", 0, left, right


def deals(left, right):
    return "deals", 0, left, right


def all_dependencies(width):
    sets = all_sets(range(width))
    return [(kind, 0, left, right) for kind in ("settles", "deals") for left in sets for right in sets]


def plainly_right(width, rule, taken, dependency):
    """Whether a rule gives the dependency from others, by the words of point [39]."""
    kinds = {"within": [], "widen": ["settles"], "widen deals": ["deals"], "through": ["settles"] * 2,
             "through deals": ["deals"] * 2, "rest": ["deals"], "deal": ["settles"], "meet": ["deals", "settles"]}
    if [one[0] for one in taken] != kinds[rule]:
        return False
    sides = [set(side) for one in taken for side in one[2:]]
    kind, left, right = dependency[0], set(dependency[2]), set(dependency[3])
    every = [set(one) for one in all_sets(range(width))]
    if rule == "within":
        return kind == "settles" and right <= left
    x, y = sides[:2]
    if rule == "widen":
        return kind == "settles" and any((left, right) == (x | z, y | z) for z in every)
    if rule == "widen deals":
        return kind == "deals" and any((left, right) == (x | z, y | w) for z in every for w in every if w <= z)
    if rule == "rest":
        return (kind, left, right) == ("deals", x, set(range(width)) - x - y)
    if rule == "deal":
        return (kind, left, right) == ("deals", x, y)
    third, z = sides[2:]
    if rule == "meet":
        return z <= y and not third & y and (kind, left, right) == ("settles", x, z)
    if rule == "through":
        return y == third and (kind, left, right) == ("settles", x, z)
    return y == third and (kind, left, right) == ("deals", x, z - y)


def some_dependency(chance, width):
    return chance.choice(("settles", "deals")), 0, some_set(chance, width, 0.5), some_set(chance, width, 0.5)


class JudgeTest(unittest.TestCase):
    def by(self, rule, taken, dependency, width=4):
        """Whether a derivation is right that takes these from the book and goes on by the rule."""
        lines = tuple(((("given", at), one) for at, one in enumerate(taken)))
        if lines:
            self.assertIs(judge_rules(width, taken, lines), True)
        return judge_rules(width, taken, lines + (((rule,) + tuple(range(len(taken))), dependency),))

    def right(self, rule, taken, *dependencies):
        for one in dependencies:
            self.assertIs(self.by(rule, taken, one), True, one)
            self.assertTrue(plainly_right(4, rule, taken, one))

    def wrong(self, rule, taken, *dependencies):
        for one in dependencies:
            self.assertIs(self.by(rule, taken, one), False, one)

    def test_no_lines(self):
        self.assertIs(judge_rules(3, (), ()), False)
        self.assertIs(judge_rules(3, (settles((0,), (1,)),), ()), False)

    def test_given(self):
        book = (settles((0,), (1,)), deals((1,), (2,)), settles((0,), (1,)))
        for index, one in enumerate(book):
            self.assertIs(judge_rules(3, book, ((("given", index), one),)), True)
        for index in (-1, -3, 3, LONG, -LONG):
            self.assertIs(judge_rules(3, book, ((("given", index), book[0]),)), False)
        for reason, one in ((("given", 1), book[0]), (("given", 0), deals((0,), (1,))),
                            (("given", 0), settles((0,), (1, 2))), (("given", 0), settles((0,), (0, 1))),
                            (("given",), book[0]), (("given", 0, 0), book[0]), (("given", 0, 2), book[0])):
            self.assertIs(judge_rules(3, book, ((reason, one),)), False)
        self.assertIs(judge_rules(3, (), ((("given", 0), settles((0,), (1,))),)), False)

    def test_within(self):
        self.right("within", (), settles((), ()), settles((0,), ()), settles((0, 2), (2,)), settles((1, 3), (1, 3)))
        self.wrong("within", (), settles((), (0,)), settles((0, 2), (1,)), settles((0,), (0, 1)), deals((0,), (0,)),
                   deals((), ()))

    def test_widen(self):
        self.right("widen", (settles((0,), (1,)),), settles((0,), (1,)), settles((0, 2), (1, 2)),
                   settles((0, 1), (1,)), settles((0,), (0, 1)), settles((0, 1, 2, 3), (0, 1, 2, 3)),
                   settles((0, 2, 3), (1, 2, 3)), settles((0, 2), (0, 1, 2)))
        self.wrong("widen", (settles((0,), (1,)),), settles((0, 2), (1,)), settles((0,), (1, 2)),
                   settles((0, 2), (1, 3)), settles((2,), (1, 2)), settles((0, 2), (2,)), settles((0, 2), (1, 2, 3)),
                   settles((0, 2, 3), (1, 2)), deals((0, 2), (1, 2)), deals((0,), (1,)))
        self.wrong("widen", (deals((0,), (1,)),), deals((0, 2), (1, 2)), settles((0, 2), (1, 2)), deals((0,), (1,)))

    def test_widen_deals(self):
        self.right("widen deals", (deals((0,), (1,)),), deals((0,), (1,)), deals((0, 2), (1,)), deals((0, 2), (1, 2)),
                   deals((0, 2, 3), (1, 3)), deals((0,), (0, 1)), deals((0, 1), (1,)), deals((0, 1, 2, 3), (1,)),
                   deals((0, 1, 2, 3), (0, 1, 2, 3)), deals((0, 2), (0, 1)))
        self.wrong("widen deals", (deals((0,), (1,)),), deals((0,), (1, 2)), deals((0, 2), (1, 3)), deals((2,), (1,)),
                   deals((0, 2), (2,)), deals((), (1,)), settles((0,), (1,)), settles((0, 2), (1, 2)))
        self.wrong("widen deals", (settles((0,), (1,)),), deals((0, 2), (1, 2)), settles((0, 2), (1, 2)),
                   deals((0,), (1,)), settles((0,), (1,)))

    def test_through(self):
        self.right("through", (settles((0,), (1, 2)), settles((1, 2), (3,))), settles((0,), (3,)))
        self.right("through", (settles((0,), ()), settles((), (3,))), settles((0,), (3,)))
        self.right("through", (settles((0,), (0, 1)), settles((0, 1), (0, 1, 2))), settles((0,), (0, 1, 2)))
        taken = (settles((0,), (1, 2)), settles((1, 2), (3,)))
        self.wrong("through", taken, settles((0,), (1, 3)), settles((0,), ()), settles((1, 2), (3,)), deals((0,), (3,)))
        self.wrong("through", (settles((0,), (1,)), settles((1, 2), (3,))), settles((0,), (3,)))
        self.wrong("through", (settles((0,), (1, 2)), settles((1,), (3,))), settles((0,), (3,)))
        self.wrong("through", taken[::-1], settles((0,), (3,)))
        self.wrong("through", (deals((0,), (1, 2)), deals((1, 2), (3,))), deals((0,), (3,)), settles((0,), (3,)))
        self.wrong("through", (settles((0,), (1, 2)), deals((1, 2), (3,))), settles((0,), (3,)), deals((0,), (3,)))
        self.wrong("through", (deals((0,), (1, 2)), settles((1, 2), (3,))), settles((0,), (3,)), deals((0,), (3,)))

    def test_through_deals(self):
        self.right("through deals", (deals((0,), (1, 2)), deals((1, 2), (3,))), deals((0,), (3,)))
        self.right("through deals", (deals((0,), (1, 2)), deals((1, 2), (0, 2, 3))), deals((0,), (0, 3)))
        self.right("through deals", (deals((0,), (1,)), deals((1,), (1,))), deals((0,), ()))
        taken = (deals((0,), (1, 2)), deals((1, 2), (2, 3)))
        self.wrong("through deals", taken, deals((0,), (2, 3)), deals((0,), ()), settles((0,), (3,)),
                   deals((1, 2), (3,)))
        self.wrong("through deals", (deals((0,), (1,)), deals((1, 2), (3,))), deals((0,), (3,)))
        self.wrong("through deals", (settles((0,), (1, 2)), settles((1, 2), (3,))), deals((0,), (3,)),
                   settles((0,), (3,)))
        self.wrong("through deals", (deals((0,), (1, 2)), settles((1, 2), (3,))), deals((0,), (3,)))
        self.wrong("through deals", (settles((0,), (1, 2)), deals((1, 2), (3,))), deals((0,), (3,)))

    def test_rest(self):
        self.right("rest", (deals((0,), (1,)),), deals((0,), (2, 3)))
        self.right("rest", (deals((0,), (0, 1, 2)),), deals((0,), (3,)))
        self.right("rest", (deals((), (0, 1, 2, 3)),), deals((), ()))
        self.right("rest", (deals((0, 1), (2, 3)),), deals((0, 1), ()))
        self.right("rest", (deals((), ()),), deals((), (0, 1, 2, 3)))
        self.wrong("rest", (deals((0,), (1,)),), deals((0,), (2,)), deals((0,), (0, 2, 3)), deals((0,), (1,)),
                   settles((0,), (2, 3)), deals((), (2, 3)))
        self.wrong("rest", (settles((0,), (1,)),), deals((0,), (2, 3)), settles((0,), (2, 3)))
        for width in (1, 2, 5):
            self.assertIs(self.by("rest", (deals((), (0,)),), deals((), tuple(range(1, width))), width), True)

    def test_deal(self):
        self.right("deal", (settles((0,), (1, 2)),), deals((0,), (1, 2)))
        self.right("deal", (settles((), ()),), deals((), ()))
        self.wrong("deal", (settles((0,), (1, 2)),), deals((0,), (1,)), deals((0, 3), (1, 2)), settles((0,), (1, 2)))
        self.wrong("deal", (deals((0,), (1, 2)),), deals((0,), (1, 2)), settles((0,), (1, 2)))

    def test_meet(self):
        self.right("meet", (deals((0,), (1, 2)), settles((3,), (1,))), settles((0,), (1,)))
        self.right("meet", (deals((0,), (1, 2)), settles((0, 3), (1, 2))), settles((0,), (1, 2)))
        self.right("meet", (deals((0,), (1, 2)), settles((), ())), settles((0,), ()))
        # W has a column of Y.
        self.wrong("meet", (deals((0,), (1, 2)), settles((2, 3), (1,))), settles((0,), (1,)))
        self.wrong("meet", (deals((0,), (1, 2)), settles((1,), (1,))), settles((0,), (1,)))
        # Z does not lie within Y.
        self.wrong("meet", (deals((0,), (1, 2)), settles((3,), (0,))), settles((0,), (0,)))
        self.wrong("meet", (deals((0,), (1,)), settles((3,), (1, 2))), settles((0,), (1,)), settles((0,), (1, 2)))
        taken = (deals((0,), (1, 2)), settles((3,), (1,)))
        self.wrong("meet", taken, settles((0,), (1, 2)), settles((3,), (1,)), deals((0,), (1,)), settles((0,), ()))
        self.wrong("meet", taken[::-1], settles((0,), (1,)))
        self.wrong("meet", (settles((0,), (1, 2)), settles((3,), (1,))), settles((0,), (1,)))
        self.wrong("meet", (deals((0,), (1, 2)), deals((3,), (1,))), settles((0,), (1,)))

    def test_numbers_of_lines(self):
        book = (settles((0,), (1,)),)
        for number in (0, 1):
            lines = ((("given", 0), book[0]), (("given", 0), book[0]), (("deal", number), deals((0,), (1,))))
            self.assertIs(judge_rules(2, book, lines), True)
        for number in (-1, -2, -3, 2, 3, LONG, -LONG):
            lines = ((("given", 0), book[0]), (("given", 0), book[0]), (("deal", number), deals((0,), (1,))))
            self.assertIs(judge_rules(2, book, lines), False)
        # A line that comes later is not there yet.
        lines = ((("deal", 1), deals((0,), (1,))), (("given", 0), book[0]))
        self.assertIs(judge_rules(2, book, lines), False)
        self.assertIs(judge_rules(2, (), ((("widen", 0), settles((0,), (1,))),)), False)

    def test_too_few_and_too_many_numbers(self):
        taken = (settles((0,), (1,)), settles((1,), (0,)), deals((0,), (1,)), deals((1,), (0,)), settles((0,), (1,)))
        given = tuple((("given", at), one) for at, one in enumerate(taken))
        rights = {"within": settles((0,), (0,)), "widen": taken[0], "widen deals": taken[2],
                  "through": settles((0,), (0,)), "through deals": deals((0,), (0,)), "rest": deals((0,), ()),
                  "deal": deals((0,), (1,)), "meet": settles((0,), (1,))}
        numbers = {"widen": (0,), "widen deals": (2,), "through": (0, 1), "through deals": (2, 3), "rest": (2,),
                   "deal": (0,), "meet": (2, 0), "within": ()}
        for rule, one in rights.items():
            told = numbers[rule]
            self.assertIs(judge_rules(2, taken, given + (((rule,) + told, one),)), True)
            for more in ((0,), (2,), (0, 1), (2, 0)):
                self.assertIs(judge_rules(2, taken, given + (((rule,) + told + more, one),)), False)
            if told:
                self.assertIs(judge_rules(2, taken, given + (((rule,) + told[:-1], one),)), False)
                self.assertIs(judge_rules(2, taken, given + (((rule,), one),)), False)

    def test_no_such_rule(self):
        book = (settles((0,), (1,)), deals((0,), (1,)))
        for word in ("", "Within", "Given", "widens", "widen  deals", "widendeals", "within ", "settles", "deals",
                     "start"):
            for numbers in ((), (0,), (1,), (0, 0)):
                for one in book + (settles((0,), (0,)),):
                    lines = ((("given", 0), book[0]), (("given", 1), book[1]), ((word,) + numbers, one))
                    self.assertIs(judge_rules(2, book, lines), False)

    def test_sides_that_are_no_sets_of_columns(self):
        book = (settles((0,), (1,)), deals((0,), (1,)))
        given = ((("given", 0), book[0]), (("given", 1), book[1]))
        for side in ((1, 0), (0, 0), (2, 1, 0), (0, 0, 1), (3,), (0, 3), (-1,), (-1, 0), (LONG,), (-LONG,), (0, LONG)):
            for reason, one in ((("within",), settles(side, side)), (("within",), settles((0, 1, 2), side)),
                                (("within",), settles(side, ())), (("widen", 0), settles(side, (0, 1, 2))),
                                (("widen", 0), settles((0, 1, 2), side)), (("widen deals", 1), deals(side, (1,))),
                                (("widen deals", 1), deals((0, 1, 2), side)), (("rest", 1), deals((0,), side)),
                                (("deal", 0), deals((0,), side))):
                self.assertIs(judge_rules(3, book, given + ((reason, one),)), False)
        # The width tells which columns there are.
        for width, wanted in ((3, False), (4, True)):
            self.assertIs(judge_rules(width, (), ((("within",), settles((1, 3), (3,))),)), wanted)

    def test_each_line_is_looked_at(self):
        book = (settles((0,), (1,)),)
        good = (("within",), settles((0,), (0,)))
        bad = (("within",), settles((0,), (1,)))
        self.assertIs(judge_rules(2, book, (good, good)), True)
        for lines in ((bad,), (bad, good), (good, bad), (good, bad, good)):
            self.assertIs(judge_rules(2, book, lines), False)
        wrong_sides = (("within",), settles((1, 0), (0,)))
        for lines in ((wrong_sides, good), (good, wrong_sides), (good, wrong_sides, good)):
            self.assertIs(judge_rules(2, book, lines), False)

    def test_a_longer_derivation(self):
        book = (deals((0,), (1,)), settles((1,), (2,)))
        lines = ((("given", 0), book[0]), (("rest", 0), deals((0,), (2, 3))), (("given", 1), book[1]),
                 (("meet", 1, 2), settles((0,), (2,))))
        for many in range(1, 5):
            self.assertIs(judge_rules(4, book, lines[:many]), True)
        self.assertIs(judge_rules(4, book[:1], lines), False)
        self.assertIs(judge_rules(3, book, lines), False)

    def test_all_rules_in_narrow_tables(self):
        for width, rules in ((1, SIZES), (2, ("within", "widen", "widen deals", "rest", "deal"))):
            every = all_dependencies(width)
            for rule in rules:
                if rule != "given":
                    for taken in product(every, repeat=SIZES[rule]):
                        for one in every:
                            wanted = plainly_right(width, rule, taken, one)
                            self.assertIs(self.by_alone(width, rule, taken, one), wanted)

    def by_alone(self, width, rule, taken, dependency):
        lines = tuple((("given", at), one) for at, one in enumerate(taken))
        return judge_rules(width, taken, lines + (((rule,) + tuple(range(len(taken))), dependency),))

    def test_rules_by_chance(self):
        chance = random.Random(39)
        seen = {rule: 0 for rule in SIZES if rule != "given"}
        for _ in range(40000):
            width = chance.randint(2, 3)
            rule = chance.choice(list(seen))
            taken = [some_dependency(chance, width) for _ in range(SIZES[rule])]
            one = some_dependency(chance, width)
            if len(taken) == 2 and chance.random() < 0.7:
                taken[1] = taken[1][:2] + ((taken[0][3],) if rule != "meet" else (taken[1][2],)) + taken[1][3:]
            if taken and chance.random() < 0.7:
                one = one[:2] + (taken[0][2], chance.choice(taken)[3])
            wanted = plainly_right(width, rule, taken, one)
            seen[rule] += wanted
            self.assertIs(self.by_alone(width, rule, tuple(taken), one), wanted)
        self.assertGreater(min(seen.values()), 20)


class DerivedTest(unittest.TestCase):
    def told(self, width, book, dependency, asked=follows):
        """That the answer is right; return whether there is one."""
        lines = derived(width, book, dependency)
        self.assertIs(lines is not None, asked((width,), book, dependency), (width, book, dependency))
        if lines is None:
            return False
        self.assertIsInstance(lines, tuple)
        self.assertTrue(all(isinstance(part, tuple) for line in lines for part in (line,) + line))
        self.assertIs(judge_rules(width, book, lines), True)
        self.assertEqual(lines[-1][1], dependency)
        # Each one is a derivation by the words of the document as well.
        for at, (reason, one) in enumerate(lines):
            if reason[0] == "given":
                self.assertEqual(book[reason[1]], one)
            else:
                self.assertTrue(all(0 <= number < at for number in reason[1:]))
                self.assertTrue(plainly_right(width, reason[0], [lines[number][1] for number in reason[1:]], one))
        return True

    def test_given_ones(self):
        for one in all_dependencies(3):
            self.assertTrue(self.told(3, (one,), one))
            self.assertTrue(self.told(3, (settles((0,), (1,)), one, one), one))
            self.assertTrue(self.told(3, (settles((0,), (1,)),) * 5 + (one,), one))

    def test_dependencies_that_say_nothing(self):
        for width in (1, 2, 3):
            for one in all_dependencies(width):
                self.told(width, (), one)
        self.assertTrue(self.told(3, (), settles((0, 1), (1,))))
        self.assertTrue(self.told(3, (), deals((0, 1), (1,))))
        self.assertTrue(self.told(3, (), deals((0,), (1, 2))))
        self.assertTrue(self.told(3, (), deals((), (0, 1, 2))))
        self.assertTrue(self.told(3, (), deals((1,), (0, 1, 2))))
        self.assertFalse(self.told(3, (), deals((0,), (1,))))
        self.assertFalse(self.told(3, (), settles((), (0,))))

    def test_empty_left(self):
        self.assertTrue(self.told(3, (settles((), (0,)), settles((0,), (2,))), settles((), (2,))))
        self.assertTrue(self.told(3, (deals((), (0,)), settles((1,), (0,))), settles((), (0,))))
        self.assertTrue(self.told(2, (settles((), (0, 1)),), deals((), (1,))))
        self.assertFalse(self.told(3, (deals((), (0,)),), deals((), (1,))))

    def test_right_with_columns_of_the_left(self):
        book = (deals((0,), (1,)),)
        self.assertTrue(self.told(3, book, deals((0,), (0, 1))))
        self.assertTrue(self.told(3, book, deals((0,), (0, 2))))
        self.assertTrue(self.told(3, (deals((0,), (0, 1)),), deals((0,), (1,))))
        self.assertTrue(self.told(3, (settles((0,), (1,)),), settles((0,), (0, 1))))
        self.assertTrue(self.told(3, (settles((0, 1), (0, 1, 2)),), settles((0, 1), (2,))))
        self.assertTrue(self.told(3, (settles((0, 1), (2,)),), settles((0, 1), (0, 1, 2))))

    def test_unions_and_shares_of_what_is_dealt(self):
        self.assertTrue(self.told(3, (deals((), (0,)), deals((), (1,))), deals((), (0, 1))))
        self.assertTrue(self.told(3, (deals((), (0, 1)), deals((), (1, 2))), deals((), (1,))))
        self.assertTrue(self.told(3, (deals((), (0, 1)), deals((), (1,))), deals((), (0,))))

    def test_both_kinds(self):
        self.assertTrue(self.told(3, (deals((0,), (1,)), settles((1,), (2,))), settles((0,), (2,))))
        self.assertTrue(self.told(3, (deals((0,), (1,)), settles((2,), (1,))), settles((0,), (1,))))
        self.assertFalse(self.told(3, (deals((0,), (1,)), settles((0, 1), (2,))), settles((0,), (1,))))

    def test_all_in_tables_of_one_column(self):
        every = all_dependencies(1)
        for book in [()] + [(one,) for one in every] + list(product(every, repeat=2)):
            for one in every:
                self.told(1, book, one, plain_follows)

    def test_all_books_of_one_in_tables_of_two_columns(self):
        every = all_dependencies(2)
        for book in [()] + [(one,) for one in every]:
            for one in every:
                self.told(2, book, one)

    def test_by_chance(self):
        chance = random.Random(93)
        found = 0
        for _ in range(700):
            width = chance.randint(2, 3)
            book = tuple(some_dependency(chance, width) for _ in range(chance.randint(0, 4)))
            found += self.told(width, book, some_dependency(chance, width))
        self.assertGreater(found, 200)
        self.assertLess(found, 600)

    def test_against_the_chase(self):
        chance = random.Random(390)
        for _ in range(100):
            book = tuple(some_dependency(chance, 3) for _ in range(chance.randint(1, 3)))
            self.told(3, book, some_dependency(chance, 3), plain_follows)

    def test_a_large_book(self):
        chance = random.Random(20)
        book = tuple(some_dependency(chance, 3) for _ in range(20))
        for one in all_dependencies(3):
            self.told(3, book, one)


class SharingTest(unittest.TestCase):
    def test_arguments_stay_and_answers_are_the_same_again(self):
        book = (deals((0,), (1,)), settles((1,), (2,)))
        kept = copy.deepcopy(book)
        lines = derived(3, book, settles((0,), (2,)))
        self.assertEqual(derived(3, book, settles((0,), (2,))), lines)
        same = copy.deepcopy(lines)
        self.assertIs(judge_rules(3, book, lines), True)
        self.assertIs(judge_rules(3, book, lines), True)
        self.assertEqual((book, lines), (kept, same))
