"""Points [28] and [29]: trees of joins, their dealt halves, and joins without a tree."""

import copy
import random
import unittest
from itertools import combinations, permutations, product

from norowstray.following import follows
from norowstray.holding import keeps
from norowstray.schemes import check_store
from norowstray.trees import dealt_halves, is_tree, not_a_tree, tree_of
from tests.helpers import LONG
from tests.plain import all_sets, breaches, plain_follows, some_set

CHAIN = ((0, 1), (1, 2), (2, 3))
RING = ((0, 1), (1, 2), (0, 2))


def folds(parts):
    """By the words of point [28]."""
    parts = list(parts)
    while len(parts) > 1:
        for at, part in enumerate(parts):
            others = parts[:at] + parts[at + 1:]
            shared = {c for c in part if any(c in other for other in others)}
            if any(shared <= set(other) for other in others):
                parts = others
                break
        else:
            return False
    return True


def side_of(pairs, number):
    """The numbers that hang together with a number by the pairs."""
    side = {number}
    while True:
        more = {b for pair in pairs for a, b in (pair, pair[::-1]) if a in side} - side
        if not more:
            return side
        side |= more


def way(pairs, one, other):
    """The numbers on the way from one to the other in a tree."""
    if one == other:
        return [one]
    for at, pair in enumerate(pairs):
        if one in pair:
            beyond = pair[0] if pair[1] == one else pair[1]
            rest = pairs[:at] + pairs[at + 1:]
            if other in side_of(rest, beyond):
                return [one] + way(rest, beyond, other)
    return None


def plainly_tree(parts, pairs):
    """By the words of point [28]."""
    many = len(parts)
    if len(pairs) != many - 1 or any(not 0 <= number < many for pair in pairs for number in pair):
        return False
    if side_of(pairs, 0) != set(range(many)):
        return False
    return all(set(parts[one]) & set(parts[other]) <= set(parts[number])
               for one, other in combinations(range(many), 2) for number in way(list(pairs), one, other))


def plain_halves(parts, pairs):
    halves = []
    for at, (one, other) in enumerate(pairs):
        shared = set(parts[one]) & set(parts[other])
        side = {c for number in side_of(pairs[:at] + pairs[at + 1:], one) for c in parts[number]} - shared
        halves.append(("deals", 0, tuple(sorted(shared)), tuple(sorted(side))))
    return tuple(halves)


def some_parts(chance, width, most):
    """Parts by chance that have all columns together, some of them pairs of columns alone."""
    if width > 2 and chance.random() < 0.5:
        parts = [tuple(sorted(chance.sample(range(width), 2))) for _ in range(chance.randint(1, most))]
    else:
        parts = [some_set(chance, width, 0.4) or (chance.randrange(width),) for _ in range(chance.randint(1, most))]
    missing = tuple(c for c in range(width) if not any(c in part for part in parts))
    parts += [missing] if missing else []
    chance.shuffle(parts)
    return tuple(parts)


class TreeOfTest(unittest.TestCase):
    def told(self, parts, is_there):
        pairs = tree_of(parts)
        self.assertIs(pairs is not None, is_there, parts)
        self.assertIs(folds(parts), is_there)
        if is_there:
            self.assertIsInstance(pairs, tuple)
            self.assertTrue(all(isinstance(pair, tuple) and len(pair) == 2 for pair in pairs))
            self.assertIs(is_tree(parts, pairs), True)
            self.assertTrue(plainly_tree(parts, pairs))
        return pairs

    def test_one_part(self):
        self.assertEqual(self.told(((0,),), True), ())
        self.assertEqual(self.told(((0, 1, 2),), True), ())

    def test_chains_and_stars(self):
        self.told(CHAIN, True)
        self.told(CHAIN[::-1], True)
        self.told(((0, 1), (2, 3), (1, 2)), True)
        self.told(((0, 1), (0, 2), (0, 3), (0, 1, 2)), True)
        self.told(((0, 1, 2), (2, 3), (0, 4), (1, 5), (3, 6)), True)

    def test_equal_parts_and_parts_within_others(self):
        self.told(((0, 1), (0, 1), (0, 1)), True)
        self.told(((0, 1), (1, 2), (0, 1), (1,), (1, 2)), True)
        self.told(((0,), (0, 1, 2), (1, 2), (2,)), True)
        # What makes the ring lies within one part.
        self.told(RING + ((0, 1, 2),), True)
        self.told(RING + RING, False)

    def test_parts_that_share_nothing(self):
        self.told(((0,), (1,), (2,)), True)
        self.told(((0, 1), (2, 3), (4,)), True)
        self.told(RING + ((3, 4),), False)

    def test_rings(self):
        self.told(RING, False)
        self.told(((0, 1), (1, 2), (2, 3), (0, 3)), False)
        self.told(((0, 1, 4), (1, 2, 4), (2, 3, 4), (0, 3, 4)), False)
        self.told(RING + ((2, 3), (3, 4)), False)
        self.told(((0, 1, 3), (1, 2, 4), (0, 2, 5)), False)
        self.told(((0, 1, 3), (1, 2, 4), (0, 2, 5), (0, 1, 2)), True)

    def test_all_columns_but_one(self):
        for n in range(2, 8):
            parts = tuple(tuple(c for c in range(n) if c != out) for out in range(n))
            # Two sets of one column share nothing; with three and more there is no tree.
            self.told(parts, n == 2)

    def test_more_parts_than_columns(self):
        self.told(tuple(one for one in all_sets(range(4)) if one), True)
        self.told(tuple(one for one in all_sets(range(4)) if 0 < len(one) < 4), False)
        self.told(((0, 1), (1, 2)) * 20, True)
        self.told(RING * 10, False)
        self.told(((0,),) * 60, True)

    def test_all_parts_of_three_columns(self):
        sets = [one for one in all_sets(range(3)) if one]
        for many in (1, 2, 3, 4):
            for parts in product(sets, repeat=many):
                if {c for part in parts for c in part} == {0, 1, 2}:
                    self.told(parts, folds(parts))

    def test_by_chance_against_the_plain_words(self):
        chance = random.Random(51)
        seen = {True: 0, False: 0}
        for _ in range(1500):
            parts = some_parts(chance, chance.randint(1, 7), 8)
            self.told(parts, folds(parts))
            seen[folds(parts)] += 1
        self.assertGreater(min(seen.values()), 100)


class IsTreeTest(unittest.TestCase):
    def test_trees(self):
        self.assertIs(is_tree(CHAIN, ((0, 1), (1, 2))), True)
        self.assertIs(is_tree(CHAIN, ((2, 1), (1, 0))), True)
        self.assertIs(is_tree(((0,),), ()), True)
        self.assertIs(is_tree(((0, 1), (0, 1), (0, 1)), ((0, 2), (1, 2))), True)
        self.assertIs(is_tree(((0,), (1,), (2,)), ((0, 2), (0, 1))), True)

    def test_a_column_is_not_on_the_way(self):
        self.assertIs(is_tree(CHAIN, ((0, 2), (2, 1))), False)
        self.assertIs(is_tree(CHAIN, ((0, 1), (0, 2))), False)
        for pairs in (((0, 1), (1, 2)), ((0, 1), (0, 2)), ((0, 2), (1, 2))):
            self.assertIs(is_tree(RING, pairs), False)

    def test_numbers_that_no_part_has(self):
        for number in (3, -1, -2, -3, LONG, -LONG):
            self.assertIs(is_tree(CHAIN, ((0, 1), (1, number))), False)
            self.assertIs(is_tree(CHAIN, ((number, 1), (1, 2))), False)
        self.assertIs(is_tree(((0,), (0,)), ((-1, 0),)), False)
        self.assertIs(is_tree(((0,), (0,)), ((0, 2),)), False)

    def test_a_pair_of_a_part_with_itself(self):
        self.assertIs(is_tree(((0,), (0,)), ((0, 0),)), False)
        self.assertIs(is_tree(CHAIN, ((0, 1), (1, 1))), False)
        self.assertIs(is_tree(((0,),), ((0, 0),)), False)

    def test_a_pair_twice_or_turned_round(self):
        self.assertIs(is_tree(CHAIN, ((0, 1), (0, 1))), False)
        self.assertIs(is_tree(CHAIN, ((0, 1), (1, 0))), False)
        self.assertIs(is_tree(CHAIN, ((0, 1), (1, 2), (2, 1))), False)

    def test_too_few_and_too_many_pairs(self):
        self.assertIs(is_tree(CHAIN, ()), False)
        self.assertIs(is_tree(CHAIN, ((0, 1),)), False)
        self.assertIs(is_tree(CHAIN, ((0, 1), (1, 2), (0, 2))), False)
        self.assertIs(is_tree(((0,), (0,), (0,)), ((0, 1), (1, 2), (0, 2))), False)
        self.assertIs(is_tree(((0,), (0,), (0,), (0,)), ((0, 1), (1, 2), (0, 2))), False)

    def test_all_pairs_against_the_plain_words(self):
        numbers = range(-1, 4)
        pairs = list(product(numbers, repeat=2))
        for parts in (CHAIN, RING, ((0, 1), (1,), (1, 2)), ((0,), (0,), (0,)), ((0,), (1,), (0, 1))):
            for one in product(pairs, repeat=2):
                self.assertIs(is_tree(parts, one), plainly_tree(parts, one), (parts, one))

    def test_by_chance_against_the_plain_words(self):
        chance = random.Random(52)
        seen = {True: 0, False: 0}
        for _ in range(3000):
            parts = some_parts(chance, chance.randint(1, 5), 5)
            order = chance.sample(range(len(parts)), len(parts))
            pairs = [(number, order[chance.randrange(at)]) for at, number in enumerate(order) if at]
            pairs = tuple(chance.choice((pair, pair[::-1])) for pair in pairs)
            told = is_tree(parts, pairs)
            self.assertIs(told, plainly_tree(parts, pairs))
            seen[told] += 1
        self.assertGreater(min(seen.values()), 300)


class DealtHalvesTest(unittest.TestCase):
    def test_one_part(self):
        self.assertEqual(dealt_halves(((0, 1),), ()), ())

    def test_in_order_and_turned_round(self):
        self.assertEqual(dealt_halves(CHAIN, ((0, 1), (1, 2))), (("deals", 0, (1,), (0,)), ("deals", 0, (2,), (0, 1))))
        self.assertEqual(dealt_halves(CHAIN, ((2, 1), (1, 0))), (("deals", 0, (2,), (3,)), ("deals", 0, (1,), (2, 3))))

    def test_parts_that_share_nothing_and_equal_parts(self):
        self.assertEqual(dealt_halves(((0, 2), (1,)), ((0, 1),)), (("deals", 0, (), (0, 2)),))
        self.assertEqual(dealt_halves(((0, 1), (0, 1)), ((1, 0),)), (("deals", 0, (0, 1), ()),))
        self.assertEqual(dealt_halves(((1,), (0, 1, 2)), ((0, 1),)), (("deals", 0, (1,), ()),))

    def test_columns_of_the_side_that_are_shared(self):
        parts = ((0, 1), (0, 1, 2), (1, 2, 3), (2, 4))
        pairs = ((0, 1), (1, 2), (2, 3))
        self.assertEqual(dealt_halves(parts, pairs),
                         (("deals", 0, (0, 1), ()), ("deals", 0, (1, 2), (0,)), ("deals", 0, (2,), (0, 1, 3))))

    def test_by_chance_against_the_plain_words(self):
        chance = random.Random(53)
        trees = 0
        for _ in range(500):
            width = chance.randint(1, 6)
            parts = some_parts(chance, width, 6)
            pairs = tree_of(parts)
            if pairs is not None:
                trees += 1
                pairs = tuple(chance.choice((pair, pair[::-1])) for pair in chance.sample(pairs, len(pairs)))
                halves = dealt_halves(parts, pairs)
                self.assertEqual(halves, plain_halves(parts, pairs))
                join = ("joins", 0, parts)
                self.assertTrue(all(follows((width,), (join,), one) for one in halves))
                self.assertIs(follows((width,), halves, join), True)
        self.assertGreater(trees, 150)


class NotATreeTest(unittest.TestCase):
    def told(self, parts, asked=follows, kept=keeps):
        rows = not_a_tree(parts)
        if folds(parts):
            self.assertIsNone(rows, parts)
            return
        width = 1 + max(c for part in parts for c in part)
        join = ("joins", 0, parts)
        self.assertIsInstance(rows, tuple)
        self.assertIsNone(check_store((width,), (rows,)))
        self.assertTrue(all(value >= 0 for row in rows for value in row))
        self.assertIs(kept((width,), (rows,), join), False, parts)
        for left, right in product(all_sets(range(width)), repeat=2):
            dealt = ("deals", 0, left, right)
            if asked((width,), (join,), dealt):
                self.assertIs(kept((width,), (rows,), dealt), True, (parts, dealt))

    def test_trees(self):
        for parts in (CHAIN, ((0,),), ((0,), (1,)), ((0, 1), (0, 1)), RING + ((0, 1, 2),)):
            self.assertIsNone(not_a_tree(parts))

    def test_rings(self):
        self.told(RING)
        self.told(((0, 1), (1, 2), (2, 3), (0, 3)))
        self.told(((0, 1), (1, 2), (2, 3), (3, 4), (0, 4)))

    def test_rings_with_more_parts(self):
        self.told(RING + ((2, 3),))
        self.told(RING + ((3,),))
        self.told(RING + ((2, 3), (2, 4)))
        self.told(((0, 1), (1, 2), (0, 2), (1,), (0, 2), (2, 3), (2, 3), (2,)))
        self.told(((0, 1, 3), (1, 2, 3), (0, 2, 3), (3, 4)))

    def test_all_columns_but_one(self):
        for n in (3, 4, 5):
            self.told(tuple(tuple(c for c in range(n) if c != out) for out in range(n)))

    def test_many_parts(self):
        self.told(tuple(combinations(range(5), 2)))
        self.told(tuple(combinations(range(5), 3)))
        self.told(tuple(one for one in all_sets(range(5)) if 0 < len(one) < 5))
        self.told((RING + ((2, 3), (2, 4))) * 10)

    def test_turned_columns(self):
        for order in permutations(range(4)):
            parts = tuple(tuple(sorted(order[c] for c in part)) for part in RING + ((2, 3),))
            self.told(parts)

    def test_by_chance_against_the_plain_words(self):
        chance = random.Random(54)
        for _ in range(150):
            self.told(some_parts(chance, chance.randint(1, 5), 7))
        for _ in range(30):
            self.told(some_parts(chance, 3, 5), plain_follows,
                      lambda scheme, store, dependency: not breaches(scheme, store, dependency))


class CallsTest(unittest.TestCase):
    def test_the_same_answer_again_and_arguments_as_they_were(self):
        parts, pairs = CHAIN, ((0, 1), (1, 2))
        before = copy.deepcopy((parts, pairs, RING))
        for ask in (lambda: tree_of(parts), lambda: is_tree(parts, pairs), lambda: dealt_halves(parts, pairs),
                    lambda: not_a_tree(RING)):
            first = ask()
            tree_of(RING), not_a_tree(CHAIN + ((0, 3),))
            self.assertEqual(ask(), first)
        self.assertEqual((parts, pairs, RING), before)
