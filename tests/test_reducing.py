"""Points [36] and [37]: reduced projections, counted joins, and projections that agree without a join."""

import copy
import random
import unittest
from itertools import combinations, product

from norowstray.joining import join
from norowstray.reducing import agree_in_pairs, agreeing_without_join, join_count, reduced
from norowstray.trees import tree_of
from tests.helpers import LONG
from tests.plain import all_sets, join_of, project, some_set

CHAIN = ((0, 1), (1, 2), (2, 3))
WAY = ((0, 1), (1, 2))
RING = ((0, 1), (1, 2), (0, 2))


def width_of(parts):
    return 1 + max(column for part in parts for column in part)


def plainly_reduced(parts, projections):
    """What the join has of each part, by the words of point [36]."""
    rows = join_of(width_of(parts), projections, parts)
    return tuple(project(rows, part) for part in parts)


def plainly_agree(parts, projections):
    """By the words of point [36]."""
    for (part, rows), (other, other_rows) in combinations(list(zip(parts, projections)), 2):
        shared = set(part) & set(other)
        if not shared:
            if (len(rows) > 0) != (len(other_rows) > 0):
                return False
        mine = {tuple(row[part.index(c)] for c in sorted(shared)) for row in rows}
        if mine != {tuple(row[other.index(c)] for c in sorted(shared)) for row in other_rows}:
            return False
    return True


def some_tree(chance, width, many):
    """Parts with a tree, and the pairs of the tree in any order and turned round by chance."""
    parts = [some_set(chance, width, 0.5) or (0,)]
    pairs = []
    while len(parts) < many or len({c for part in parts for c in part}) < width:
        near = chance.randrange(len(parts))
        missing = [c for c in range(width) if all(c not in part for part in parts)]
        shared = [c for c in parts[near] if chance.random() < 0.6]
        part = tuple(sorted(shared + [c for c in missing if chance.random() < 0.5]))
        if part:
            pairs.append((near, len(parts)))
            parts.append(part)
    chance.shuffle(pairs)
    numbers = list(range(len(parts)))
    chance.shuffle(numbers)
    shuffled = [None] * len(parts)
    for at, number in enumerate(numbers):
        shuffled[number] = parts[at]
    turned = [(numbers[a], numbers[b]) if chance.random() < 0.5 else (numbers[b], numbers[a]) for a, b in pairs]
    return tuple(shuffled), tuple(turned)


def some_projections(chance, parts, most, high):
    """Projections by chance, in any order and with rows more than once."""
    told = []
    for part in parts:
        rows = [tuple(chance.randint(-1, high) for _ in part) for _ in range(chance.randint(0, most))]
        told.append(tuple(rows + [row for row in rows if chance.random() < 0.3]))
    return tuple(told)


class ReducedTest(unittest.TestCase):
    def told(self, parts, pairs, projections, wanted):
        self.assertEqual(plainly_reduced(parts, projections), wanted)
        self.assertEqual(reduced(parts, pairs, projections), wanted)

    def test_idle_rows_at_both_ends_and_between(self):
        projections = (((1, 2), (5, 6), (7, 8)), ((2, 3), (6, 9), (4, 4)), ((3, 0), (3, 1), (5, 5)))
        wanted = (((1, 2),), ((2, 3),), ((3, 0), (3, 1)))
        self.told(CHAIN, WAY, projections, wanted)

    def test_pairs_in_any_order_and_turned_round(self):
        projections = (((1, 2), (5, 6), (7, 8)), ((2, 3), (6, 9), (4, 4)), ((3, 0), (5, 5)))
        wanted = (((1, 2),), ((2, 3),), ((3, 0),))
        for pairs in (((0, 1), (1, 2)), ((1, 2), (0, 1)), ((1, 0), (1, 2)), ((2, 1), (1, 0)), ((2, 1), (0, 1))):
            self.assertEqual(reduced(CHAIN, pairs, projections), wanted)

    def test_no_rows(self):
        self.told(CHAIN, WAY, ((), (), ()), ((), (), ()))
        self.told(((0,),), (), ((),), ((),))

    def test_one_projection_without_rows(self):
        for at in range(3):
            projections = tuple(() if at == number else ((1, 1), (2, 2)) for number in range(3))
            self.told(CHAIN, WAY, projections, ((), (), ()))
        self.told(((0,), (1,)), ((0, 1),), (((1,),), ()), ((), ()))

    def test_one_part(self):
        self.told(((0, 1),), (), (((3, 1), (-2, 5), (3, 1)),), (((-2, 5), (3, 1)),))

    def test_parts_that_share_nothing(self):
        self.told(((0,), (1, 2), (3,)), ((0, 1), (2, 0)), (((2,), (1,)), ((5, 5),), ((0,), (-1,))),
                  (((1,), (2,)), ((5, 5),), ((-1,), (0,))))

    def test_equal_parts(self):
        self.told(((0, 1), (0, 1)), ((0, 1),), (((1, 2), (3, 4)), ((3, 4), (1, 5))), (((3, 4),), ((3, 4),)))
        self.told(((0,), (0,), (0,)), ((0, 2), (2, 1)), (((1,), (2,)), ((2,), (3,)), ((2,), (1,))),
                  (((2,),), ((2,),), ((2,),)))

    def test_parts_within_others(self):
        self.told(((1,), (0, 1, 2), (0, 2)), ((0, 1), (1, 2)), (((5,), (6,)), ((1, 5, 2), (1, 7, 3)), ((1, 2), (1, 3))),
                  (((5,),), ((1, 5, 2),), ((1, 2),)))

    def test_rows_in_any_order_and_more_than_once(self):
        self.told(((0, 1), (1, 2)), ((0, 1),), (((4, 1), (2, 1), (4, 1)), ((1, 9), (1, 3), (1, 9))),
                  (((2, 1), (4, 1)), ((1, 3), (1, 9))))

    def test_values_of_any_size(self):
        self.told(((0,), (0, 1)), ((0, 1),), (((LONG,), (-LONG,)), ((-LONG, LONG), (LONG + 1, 0))),
                  (((-LONG,),), ((-LONG, LONG),)))

    def test_rows_that_no_neighbour_makes_idle(self):
        # Each row fits some row beside it; that no row is made shows only after two ways.
        parts = ((0, 1), (1, 2), (2, 3), (3, 4))
        projections = (((0, 1),), ((1, 1), (2, 2)), ((1, 1), (2, 2)), ((2, 0),))
        self.told(parts, ((0, 1), (1, 2), (2, 3)), projections, ((), (), (), ()))

    def test_by_chance(self):
        chance = random.Random(36)
        for _ in range(400):
            parts, pairs = some_tree(chance, chance.randint(1, 4), chance.randint(1, 4))
            projections = some_projections(chance, parts, 6, 1)
            told = reduced(parts, pairs, projections)
            self.assertEqual(told, plainly_reduced(parts, projections))
            self.assertTrue(agree_in_pairs(parts, told))
            self.assertEqual(reduced(parts, pairs, told), told)

    def test_many_parts(self):
        parts = tuple((at, at + 1) for at in range(600))
        pairs = tuple((at, at + 1) for at in range(599))
        projections = tuple(((0, 0), (1, 1), (1, 2)) for _ in parts[1:]) + (((0, 5), (2, 6)),)
        told = reduced(parts, pairs[::-1], projections)
        # Only at its end may a row become 2.
        self.assertEqual(told[:-2], (((0, 0), (1, 1)),) * 598)
        self.assertEqual(told[-2:], (((0, 0), (1, 2)), ((0, 5), (2, 6))))


class JoinCountTest(unittest.TestCase):
    def told(self, parts, pairs, projections, wanted):
        self.assertEqual(len(join_of(width_of(parts), projections, parts)), wanted)
        self.assertEqual(join_count(parts, pairs, projections), wanted)

    def test_chain(self):
        self.told(CHAIN, WAY, (((1, 2), (3, 2)), ((2, 4), (2, 5)), ((4, 1), (4, 2), (5, 0))), 6)

    def test_pairs_in_any_order_and_turned_round(self):
        for pairs in (((0, 1), (1, 2)), ((1, 2), (0, 1)), ((1, 0), (1, 2)), ((2, 1), (1, 0)), ((2, 1), (0, 1))):
            self.told(CHAIN, pairs, (((1, 2), (3, 2)), ((2, 4), (2, 5)), ((4, 1), (4, 2), (5, 0))), 6)

    def test_idle_rows(self):
        self.told(CHAIN, WAY, (((1, 2), (3, 9)), ((2, 4), (7, 4)), ((4, 1), (5, 1))), 1)
        self.told(CHAIN, WAY, (((1, 2),), ((2, 4),), ((5, 1),)), 0)

    def test_rows_that_are_there_twice_count_once(self):
        self.told(((0, 1), (1, 2)), ((0, 1),), (((1, 2), (1, 2), (0, 2)), ((2, 3), (2, 3))), 2)
        self.told(((0,),), (), (((7,), (7,), (7,)),), 1)

    def test_one_part(self):
        self.told(((0, 1),), (), (((1, 2), (-1, 2)),), 2)
        self.told(((0,),), (), ((),), 0)

    def test_parts_that_share_nothing(self):
        self.told(((0,), (1,), (2,)), ((0, 1), (0, 2)), (((1,), (2,)), ((1,), (2,), (3,)), ((4,), (5,))), 12)
        self.told(((0,), (1,), (2,)), ((0, 1), (0, 2)), (((1,), (2,)), ((1,), (2,), (3,)), ()), 0)

    def test_equal_parts_and_parts_within_others(self):
        self.told(((0, 1), (0, 1)), ((0, 1),), (((1, 2), (3, 4), (5, 5)), ((3, 4), (5, 5), (1, 5))), 2)
        self.told(((0,), (0, 1), (1,)), ((1, 0), (1, 2)), (((1,), (2,)), ((1, 5), (2, 6), (3, 5)), ((5,),)), 1)

    def test_very_many_rows(self):
        # Each part but the first one has all pairs of ten values, so each makes ten times as many rows.
        parts = tuple((at, at + 1) for at in range(60))
        pairs = tuple((at, at + 1) for at in range(59))
        projections = (tuple(product(range(10), repeat=2)),) * 60
        self.assertEqual(join_count(parts, pairs, projections), 10 ** 61)
        rows = tuple((row,) for row in range(200))
        parts = tuple((at,) for at in range(7))
        self.assertEqual(join_count(parts, tuple((0, at) for at in range(1, 7)), (rows,) * 7), 200 ** 7)

    def test_many_parts(self):
        parts = tuple((at, at + 1) for at in range(600))
        pairs = tuple((at + 1, at) for at in range(599))
        self.assertEqual(join_count(parts, pairs, (((0, 0), (0, 1), (1, 0), (1, 1)),) * 600), 2 ** 601)

    def test_values_of_any_size(self):
        self.told(((0,), (0, 1)), ((0, 1),), (((LONG,), (-LONG,)), ((-LONG, LONG), (-LONG, 0))), 2)

    def test_by_chance(self):
        chance = random.Random(37)
        for _ in range(400):
            parts, pairs = some_tree(chance, chance.randint(1, 4), chance.randint(1, 4))
            projections = some_projections(chance, parts, 6, 1)
            self.told(parts, pairs, projections, len(join(width_of(parts), projections, parts)))


class AgreeTest(unittest.TestCase):
    def told(self, parts, projections, wanted):
        self.assertIs(plainly_agree(parts, projections), wanted)
        self.assertIs(agree_in_pairs(parts, projections), wanted)

    def test_one_part(self):
        self.told(((0,),), ((),), True)
        self.told(((0,),), (((1,),),), True)

    def test_chain(self):
        self.told(CHAIN, (((1, 2),), ((2, 3),), ((3, 4),)), True)
        self.told(CHAIN, (((1, 2),), ((2, 3),), ((4, 4),)), False)
        self.told(CHAIN, (((1, 2), (1, 3)), ((2, 3),), ((3, 4),)), False)
        self.told(CHAIN, (((1, 2),), ((2, 3), (2, 5)), ((3, 4),)), False)

    def test_parts_that_share_nothing(self):
        parts = ((0,), (1,))
        self.told(parts, ((), ()), True)
        self.told(parts, (((1,),), ((2,), (3,))), True)
        self.told(parts, (((1,),), ()), False)
        self.told(parts, ((), ((1,),)), False)

    def test_shared_columns_in_other_places(self):
        self.told(((0, 2), (1, 2, 3)), (((7, 1),), ((7, 1, 8),)), True)
        self.told(((0, 2), (1, 2, 3)), (((7, 1),), ((1, 7, 8),)), False)

    def test_parts_that_do_not_fold(self):
        unlike = ((0, 1), (1, 0))
        alike = ((0, 0), (1, 1))
        self.told(RING, (alike, alike, unlike), True)
        self.told(RING, (alike, alike, unlike[:1]), False)
        self.assertEqual(join_of(3, (alike, alike, unlike), RING), ())

    def test_equal_parts_and_parts_within_others(self):
        self.told(((0, 1), (0, 1)), (((1, 2),), ((1, 2), (1, 2))), True)
        self.told(((0, 1), (0, 1)), (((1, 2), (3, 4)), ((1, 4), (3, 2))), False)
        self.told(((0, 1), (0,)), (((1, 2), (1, 3)), ((1,),)), True)
        self.told(((0, 1), (0,)), (((1, 2), (2, 3)), ((1,),)), False)

    def test_rows_in_any_order_and_more_than_once(self):
        self.told(((0, 1), (1, 2)), (((1, 5), (1, 2), (1, 5)), ((2, 0), (5, 0), (2, 0))), True)

    def test_values_of_any_size(self):
        self.told(((0,), (0,)), (((LONG,),), ((LONG,),)), True)
        self.told(((0,), (0,)), (((LONG,),), ((-LONG,),)), False)

    def test_last_two_parts_alone_do_not_agree(self):
        self.told(((0,), (1,), (1,)), (((1,),), ((1,),), ((2,),)), False)

    def test_by_chance(self):
        chance = random.Random(360)
        seen = {True: 0, False: 0}
        for _ in range(600):
            parts = tuple(some_set(chance, 3, 0.5) or (0,) for _ in range(chance.randint(1, 3)))
            projections = some_projections(chance, parts, 5, 0)
            wanted = plainly_agree(parts, projections)
            seen[wanted] += 1
            self.assertIs(agree_in_pairs(parts, projections), wanted)
        self.assertGreater(min(seen.values()), 50)


class WithoutJoinTest(unittest.TestCase):
    def told(self, parts):
        """That the answer is right; return whether there is one."""
        told = agreeing_without_join(parts)
        self.assertIs(told is None, tree_of(parts) is not None, parts)
        if told is None:
            return False
        self.assertIsInstance(told, tuple)
        self.assertEqual(len(told), len(parts))
        for part, rows in zip(parts, told):
            self.assertEqual(rows, tuple(sorted(set(rows))))
            for row in rows:
                self.assertIsInstance(row, tuple)
                self.assertEqual(len(row), len(part))
                self.assertTrue(all(value >= 0 for value in row))
        self.assertTrue(any(told))
        self.assertTrue(plainly_agree(parts, told), parts)
        self.assertEqual(join(width_of(parts), told, parts), ())
        return True

    def test_parts_that_fold(self):
        for parts in (((0,),), CHAIN, ((0,), (1,)), ((0, 1), (0, 1)), RING + ((0, 1, 2),), ((0, 1, 2), (2, 3), (1, 2))):
            self.assertFalse(self.told(parts))

    def test_rings(self):
        for many in range(3, 7):
            ring = tuple(tuple(sorted((at, (at + 1) % many))) for at in range(many))
            self.assertTrue(self.told(ring))
            self.assertTrue(self.told(ring[::-1]))
            self.assertTrue(self.told(ring + ring))

    def test_all_sets_of_all_columns_but_one(self):
        for many in range(3, 7):
            parts = tuple(combinations(range(many), many - 1))
            self.assertTrue(self.told(parts))
            # Without one of them, the others still make a ring if there are three.
            self.assertIs(self.told(parts[1:]), many > 3)

    def test_further_parts_beside_them(self):
        self.assertTrue(self.told(RING + ((3,),)))
        self.assertTrue(self.told(((4,), (0,)) + RING + ((2, 3), (0, 1), (1,))))
        self.assertTrue(self.told(((0, 1, 3), (1, 2, 4), (0, 2, 5))))
        self.assertTrue(self.told(((0, 1, 3), (1, 2, 3), (0, 2, 3))))
        self.assertTrue(self.told(((0, 1, 3), (1, 2, 3), (0, 2, 3), (3, 4, 5), (0, 1))))
        self.assertTrue(self.told(((0, 1), (1, 2), (2, 3), (0, 3), (0, 4), (2, 4), (1, 5), (3, 5))))

    def test_a_ring_with_a_way_across(self):
        self.assertTrue(self.told(((0, 1), (1, 2), (2, 3), (0, 3), (0, 2))))
        self.assertFalse(self.told(((0, 1, 2), (0, 2, 3), (0, 1), (1, 2), (2, 3), (0, 3))))
        # The way across is a part of its own, which goes round by a further column.
        self.assertTrue(self.told(((0, 1), (1, 2), (2, 3), (0, 3), (0, 4), (2, 4))))

    def test_all_sets_of_parts_of_few_columns(self):
        for width in range(1, 5):
            sides = [one for one in all_sets(range(width)) if one]
            for many in range(1, 5):
                for parts in combinations(sides, many):
                    if {c for part in parts for c in part} == set(range(width)):
                        self.told(parts)

    def test_parts_by_chance(self):
        chance = random.Random(361)
        found = 0
        for _ in range(250):
            width = chance.randint(3, 6)
            low = chance.choice((2, 2, width - 1))
            parts = [tuple(sorted(chance.sample(range(width), chance.randint(low, max(low, 3)))))
                     for _ in range(chance.randint(3, 8))]
            missing = tuple(c for c in range(width) if all(c not in part for part in parts))
            parts += [missing] if missing else []
            chance.shuffle(parts)
            found += self.told(tuple(parts))
        self.assertGreater(found, 60)


class SharingTest(unittest.TestCase):
    def test_arguments_stay_and_answers_are_the_same_again(self):
        parts = CHAIN + ((1, 2),)
        pairs = WAY + ((3, 1),)
        projections = (((2, 1), (2, 1)), ((1, 1), (1, 2)), ((2, 2),), ((1, 2), (1, 1)))
        kept = copy.deepcopy((parts, pairs, projections))
        for call in (lambda: reduced(parts, pairs, projections), lambda: join_count(parts, pairs, projections),
                     lambda: agree_in_pairs(parts, projections), lambda: agreeing_without_join(RING + parts[2:])):
            self.assertEqual(call(), call())
            self.assertEqual((parts, pairs, projections), kept)
