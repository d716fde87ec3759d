"""Point [40]: answers in a store, and sure answers."""

import copy
import random
import unittest
from itertools import product

from norowstray.answers import answers, sure_answers
from norowstray.completing import chase
from norowstray.holding import keeps_all
from tests.helpers import LONG
from tests.plain import PlainChase, some_book, some_store

WAYS = (((0, 1), (1, 2), (2, 0), (2, 3)),)


def plain_answers(store, question):
    """By the words of point [40]: every function on the variables is tried."""
    head, atoms = question
    variables = sorted({term for _, terms in atoms for term in terms if term < 0})
    values = sorted({value for rows in store for row in rows for value in row})
    found = set()
    for chosen in product(values, repeat=len(variables)):
        told = dict(zip(variables, chosen))
        if all(tuple(told.get(term, term) for term in terms) in store[table] for table, terms in atoms):
            found.add(tuple(told[variable] for variable in head))
    return tuple(sorted(found))


def some_question(chance, scheme, most):
    many = chance.randint(1, 4)
    atoms = tuple((table, tuple(-chance.randint(1, many) if chance.random() < 0.85 else chance.randint(0, 2)
                                for _ in range(scheme[table])))
                  for table in [chance.randrange(len(scheme)) for _ in range(chance.randint(1, most))])
    variables = sorted({term for _, terms in atoms for term in terms if term < 0})
    head = tuple(chance.choice(variables) for _ in range(chance.randint(0, 3))) if variables else ()
    return head, atoms


class AnswerTest(unittest.TestCase):
    def told(self, scheme, store, question, wanted):
        self.assertEqual(plain_answers(store, question), wanted)
        self.assertEqual(answers(scheme, store, question), wanted)

    def test_one_atom(self):
        self.told((2,), WAYS, ((-1, -2), ((0, (-1, -2)),)), WAYS[0])
        self.told((2,), WAYS, ((-2, -1), ((0, (-1, -2)),)), ((0, 2), (1, 0), (2, 1), (3, 2)))
        self.told((2,), WAYS, ((-2,), ((0, (-1, -2)),)), ((0,), (1,), (2,), (3,)))
        self.told((2,), WAYS, ((-1,), ((0, (-1, -2)),)), ((0,), (1,), (2,)))

    def test_values_in_atoms(self):
        self.told((2,), WAYS, ((-1,), ((0, (2, -1)),)), ((0,), (3,)))
        self.told((2,), WAYS, ((-1,), ((0, (-1, 3)),)), ((2,),))
        self.told((2,), WAYS, ((-1,), ((0, (3, -1)),)), ())

    def test_empty_head(self):
        self.told((2,), WAYS, ((), ((0, (-1, -2)),)), ((),))
        self.told((2,), WAYS, ((), ((0, (2, 3)),)), ((),))
        self.told((2,), WAYS, ((), ((0, (3, 2)),)), ())
        self.told((2,), WAYS, ((), ((0, (-1, -1)),)), ())
        self.told((2,), WAYS, ((), ((0, (0, 1)), (0, (1, 2)))), ((),))
        self.told((2,), WAYS, ((), ((0, (0, 1)), (0, (1, 1)))), ())

    def test_a_variable_twice_in_the_head(self):
        self.told((2,), WAYS, ((-1, -1), ((0, (2, -1)),)), ((0, 0), (3, 3)))
        self.told((2,), WAYS, ((-1, -2, -1), ((0, (-1, -2)), (0, (-2, 3)))), ((1, 2, 1),))

    def test_a_variable_twice_in_an_atom(self):
        store = (((0, 0, 1), (0, 1, 0), (1, 1, 1), (2, 0, 0)),)
        self.told((3,), store, ((-1,), ((0, (-1, -1, -2)),)), ((0,), (1,)))
        self.told((3,), store, ((-1, -2), ((0, (-1, -2, -1)),)), ((0, 1), (1, 1)))
        self.told((3,), store, ((-2,), ((0, (-1, -2, -2)),)), ((0,), (1,)))
        self.told((3,), store, ((-1,), ((0, (-1, -1, -1)),)), ((1,),))

    def test_values_that_no_row_has(self):
        self.told((2,), WAYS, ((-1,), ((0, (7, -1)),)), ())
        self.told((2,), WAYS, ((-1,), ((0, (-1, -2)), (0, (9, -2)))), ())
        self.told((2,), WAYS, ((-1,), ((0, (-1, LONG)),)), ())
        self.told((2,), WAYS, ((), ((0, (LONG, LONG)),)), ())

    def test_an_atom_twice(self):
        atom = (0, (-1, -2))
        self.told((2,), WAYS, ((-1, -2), (atom, atom)), WAYS[0])
        self.told((2,), WAYS, ((-1,), (atom, (0, (2, -2)), atom, (0, (2, -2)))), ((2,),))

    def test_several_atoms_of_one_table(self):
        self.told((2,), WAYS, ((-1, -3), ((0, (-1, -2)), (0, (-2, -3)))), ((0, 2), (1, 0), (1, 3), (2, 1)))
        self.told((2,), WAYS, ((-1,), ((0, (-1, -2)), (0, (-2, -3)), (0, (-3, -1)))), ((0,), (1,), (2,)))
        self.told((2,), WAYS, ((-1,), ((0, (-1, -2)), (0, (-2, -1)))), ())

    def test_several_tables(self):
        store = (((0, 1), (1, 2)), ((1,), (5,)), ())
        self.told((2, 1, 1), store, ((-1,), ((0, (-1, -2)), (1, (-2,)))), ((0,),))
        self.told((2, 1, 1), store, ((-1, -3), ((0, (-1, -2)), (1, (-3,)))), ((0, 1), (0, 5), (1, 1), (1, 5)))
        self.told((2, 1, 1), store, ((-1,), ((0, (-1, -2)), (2, (-3,)))), ())
        self.told((2, 1, 1), store, ((), ((2, (-1,)),)), ())

    def test_atoms_that_share_nothing(self):
        self.told((1,), (((1,), (2,)),), ((-1, -2), ((0, (-1,)), (0, (-2,)))), ((1, 1), (1, 2), (2, 1), (2, 2)))
        self.told((1,), (((1,), (2,)),), ((-2,), ((0, (-1,)), (0, (-2,)))), ((1,), (2,)))

    def test_unknown_values_are_values_like_others(self):
        store = (((-2, -2), (-2, 3), (-1, -2), (3, -1)),)
        self.told((2,), store, ((-1,), ((0, (-1, -1)),)), ((-2,),))
        self.told((2,), store, ((-1, -2), ((0, (-1, -2)),)), store[0])
        # A variable is no value, though both may be the same integer.
        self.told((2,), store, ((-2,), ((0, (3, -2)),)), ((-1,),))
        self.told((2,), store, ((-1, -3), ((0, (-1, -2)), (0, (-2, -3)))),
                  ((-2, -2), (-2, -1), (-2, 3), (-1, -2), (-1, 3), (3, -2)))

    def test_values_and_variables_of_any_size(self):
        store = (((-LONG, LONG), (0, -LONG)),)
        self.told((2,), store, ((-LONG, -1), ((0, (-1, -LONG)),)), ((-LONG, 0), (LONG, -LONG)))
        self.told((2,), store, ((-LONG,), ((0, (-LONG, LONG)),)), ((-LONG,),))
        self.told((2,), store, ((-3, -7), ((0, (-3, -5)), (0, (-5, -7)))), ((0, LONG),))

    def test_by_chance(self):
        chance = random.Random(40)
        found = 0
        for _ in range(1500):
            scheme = tuple(chance.randint(1, 3) for _ in range(chance.randint(1, 3)))
            store = some_store(chance, scheme, 8, -2, 2)
            question = some_question(chance, scheme, 4)
            told = answers(scheme, store, question)
            self.assertEqual(told, plain_answers(store, question), (store, question))
            found += len(told) > 1
        self.assertGreater(found, 200)

    def test_many_atoms(self):
        chance = random.Random(41)
        rows = tuple(sorted({(chance.randrange(30), chance.randrange(30)) for _ in range(200)}))
        ways = {(one, one) for one in range(30)}
        for _ in range(100):
            ways = {(one, other) for one, far in ways for near, other in rows if far == near}
        atoms = tuple((0, (-at, -at - 1)) for at in range(1, 101))
        self.assertEqual(answers((2,), (rows,), ((-1, -101), atoms)), tuple(sorted(ways)))
        shuffled = list(atoms)
        chance.shuffle(shuffled)
        self.assertEqual(answers((2,), (rows,), ((-1, -101), tuple(shuffled))), tuple(sorted(ways)))
        # All around one variable, each atom may become many rows.
        around = tuple((0, (-1, -at)) for at in range(2, 100))
        self.assertEqual(answers((2,), (rows,), ((-1,), around)), tuple(sorted({row[:1] for row in rows})))

    def test_answers_that_one_atom_prevents(self):
        rows = tuple((one, other) for one in range(14) for other in range(14))
        atoms = tuple((0, (-2 * at - 1, -2 * at - 2)) for at in range(10)) + ((1, (-99,)),)
        self.assertEqual(answers((2, 1), (rows, ()), (tuple(range(-20, 0)), atoms)), ())
        self.assertEqual(answers((2, 1), (rows, ((1,),)), ((-99,), atoms)), ((1,),))

    def test_a_long_head(self):
        head = tuple(range(-400, 0))
        atoms = tuple((0, (-2 * at - 1, -2 * at - 2)) for at in range(200))
        self.assertEqual(answers((2,), (((5, 6),),), (head, atoms)), ((6, 5) * 200,))


class SureTest(unittest.TestCase):
    # Who stands in table 0 has a row in table 1, of which the second column is told by the first one.
    SCHEME = (1, 2)
    BOOK = (("within", 0, (0,), 1, (0,)), ("settles", 1, (0,), (1,)))

    def test_a_store_that_keeps_the_book(self):
        store = (((1,),), ((1, 5), (2, 6)))
        question = ((-1, -2), ((1, (-1, -2)),))
        self.assertEqual(sure_answers(self.SCHEME, self.BOOK, store, question), ((1, 5), (2, 6)))
        self.assertEqual(sure_answers((2,), (), WAYS, ((-1,), ((0, (2, -1)),))), ((0,), (3,)))

    def test_rows_that_must_be_there(self):
        store = (((1,), (2,)), ((1, 5),))
        self.assertEqual(sure_answers(self.SCHEME, self.BOOK, store, ((-1,), ((1, (-1, -2)),))), ((1,), (2,)))
        self.assertEqual(sure_answers(self.SCHEME, self.BOOK, store, ((-1, -2), ((1, (-1, -2)),))), ((1, 5),))
        self.assertEqual(sure_answers(self.SCHEME, self.BOOK, store, ((-2,), ((1, (2, -2)),))), ())
        self.assertEqual(sure_answers(self.SCHEME, self.BOOK, store, ((), ((1, (2, -2)),))), ((),))

    def test_atoms_that_meet_in_an_unknown_value(self):
        scheme = (1, 2, 1)
        book = (("within", 0, (0,), 1, (0,)), ("within", 1, (1,), 2, (0,)))
        store = (((4,),), (), ())
        question = ((-1,), ((0, (-1,)), (1, (-1, -2)), (2, (-2,))))
        self.assertEqual(sure_answers(scheme, book, store, question), ((4,),))
        self.assertEqual(sure_answers(scheme, book[:1], store, question), ())
        self.assertEqual(sure_answers(scheme, book, store, ((-2,),) + question[1:]), ())

    def test_unknown_values_of_the_store(self):
        store = ((), ((-5, 3), (-4, 3), (1, -4)))
        self.assertEqual(sure_answers(self.SCHEME, self.BOOK, store, ((-1, -2), ((1, (-1, -2)),))), ())
        self.assertEqual(sure_answers(self.SCHEME, self.BOOK, store, ((-2,), ((1, (-1, -2)),))), ((3,),))
        question = ((-1, -3), ((1, (-1, -2)), (1, (-2, -3))))
        self.assertEqual(sure_answers(self.SCHEME, self.BOOK, store, question), ((1, 3),))
        # The unknown value is told by a row that has a known one.
        store = ((), ((1, -4), (1, 8)))
        self.assertEqual(sure_answers(self.SCHEME, self.BOOK, store, ((-1, -2), ((1, (-1, -2)),))), ((1, 8),))

    def test_clash(self):
        store = ((), ((1, 5), (1, 6)))
        for question in (((), ((0, (-1,)),)), ((-1,), ((0, (-1,)),)), ((), ((1, (9, 9)),))):
            self.assertIsNone(sure_answers(self.SCHEME, self.BOOK, store, question))

    def test_no_answer_is_no_clash(self):
        self.assertEqual(sure_answers(self.SCHEME, self.BOOK, ((), ()), ((), ((0, (-1,)),))), ())
        self.assertEqual(sure_answers(self.SCHEME, self.BOOK, ((), ()), ((-1,), ((0, (-1,)),))), ())

    def test_joined_rows(self):
        book = (("deals", 0, (0,), (1,)),)
        store = (((1, 2, 3), (1, 4, 5)),)
        question = ((-1, -2), ((0, (1, -1, -2)),))
        self.assertEqual(sure_answers((3,), book, store, question), ((2, 3), (2, 5), (4, 3), (4, 5)))
        self.assertEqual(sure_answers((3,), (), store, question), ((2, 3), (4, 5)))

    def test_many_atoms(self):
        scheme = (1, 2)
        book = (("within", 0, (0,), 1, (0,)),)
        store = (tuple((at,) for at in range(100)), tuple((at, at + 1) for at in range(0, 100, 2)))
        atoms = tuple((1, (-1, -at)) for at in range(2, 60)) + ((0, (-1,)),)
        self.assertEqual(sure_answers(scheme, book, store, ((-1,), atoms)), store[0])
        self.assertEqual(sure_answers(scheme, book, store, ((-2,), atoms)), tuple((at + 1,) for at in range(0, 100, 2)))

    def test_against_the_plain_chase(self):
        chance = random.Random(42)
        clashes = found = 0
        for _ in range(500):
            scheme = tuple(chance.randint(1, 3) for _ in range(chance.randint(1, 3)))
            book = some_book(chance, scheme, 3)
            store = some_store(chance, scheme, 3, -1, 2)
            question = some_question(chance, scheme, 3)
            told = sure_answers(scheme, book, store, question)
            plain = PlainChase(scheme, book, store)
            steps = plain.steps()
            clashed = False
            while steps and not clashed:
                clashed = plain.step(steps[0]) == "clash"
                steps = plain.steps()
            if clashed:
                clashes += 1
                self.assertIsNone(told)
                continue
            at_the_end = answers(scheme, plain.result(), question)
            self.assertEqual(told, tuple(one for one in at_the_end if min(one, default=0) >= 0))
            found += len(told) > 0
        self.assertGreater(clashes, 20)
        self.assertGreater(found, 80)

    def test_they_are_answers_in_stores_that_complete_the_store(self):
        chance = random.Random(43)
        for _ in range(200):
            scheme = (2, 2)
            book = some_book(chance, scheme, 3)
            store = some_store(chance, scheme, 3, -2, 2)
            question = some_question(chance, scheme, 3)
            told = sure_answers(scheme, book, store, question)
            if told is not None:
                ended = chase(scheme, book, store)
                for further in (10, 20):
                    known = tuple(tuple(sorted(tuple(further - v if v < 0 else v for v in row) for row in rows))
                                  for rows in ended)
                    self.assertTrue(keeps_all(scheme, known, book))
                    self.assertLessEqual(set(told), set(answers(scheme, known, question)))


class SharingTest(unittest.TestCase):
    def test_arguments_stay_and_answers_are_the_same_again(self):
        scheme, book = SureTest.SCHEME, SureTest.BOOK
        store = (((1,), (2,)), ((1, 5), (3, -4)))
        question = ((-1, -1), ((1, (-1, -2)), (1, (-1, -3))))
        kept = copy.deepcopy((scheme, book, store, question))
        for call in (lambda: answers(scheme, store, question), lambda: sure_answers(scheme, book, store, question)):
            self.assertEqual(call(), call())
            self.assertIsInstance(call(), tuple)
            self.assertTrue(all(isinstance(one, tuple) for one in call()))
            self.assertEqual((scheme, book, store, question), kept)
