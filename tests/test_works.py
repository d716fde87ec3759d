"""Points [31] and [32], with [10]: works and their deeds."""

import copy
import random
import unittest

from norowstray.errors import (Breach, DoubledRow, InvalidBook, InvalidStore, NoDependency, NoRow, NothingToRedo,
                               NothingToUndo, NoTable, TableError)
from norowstray.schemes import check_book, check_store
from norowstray.works import Works, replayed
from tests.helpers import LONG, raised
from tests.plain import breaches, some_book, some_dependency, some_set

SCHEME = (2, 1)
BOOK = (("settles", 0, (0,), (1,)), ("within", 0, (1,), 1, (0,)))
STORE = (((1, 5), (2, 5)), ((5,), (6,)))


class PlainWorks:
    """Works by the words of the document; wrong deeds are told by the class of their error."""

    def __init__(self, scheme, book, store):
        self.scheme, self.now = scheme, (book, store)
        self.states, self.ahead, self.journal = [], [], []

    def edited(self, store, deed):
        kind, table, rows = deed[0], deed[1], deed[2:]
        if not 0 <= table < len(self.scheme):
            return NoTable
        if any(len(row) != self.scheme[table] or any(value < 0 for value in row) for row in rows):
            return InvalidStore
        there = set(store[table])
        if kind != "insert":
            if rows[0] not in there:
                return NoRow
        if kind != "remove":
            if rows[-1] in there:
                return DoubledRow
        if kind != "insert":
            there.discard(rows[0])
        if kind != "remove":
            there.add(rows[-1])
        return store[:table] + (tuple(sorted(there)),) + store[table + 1:]

    def after(self, deed):
        book, store = self.now
        if deed[0] == "state":
            book = book + (deed[1],)
            if raised(check_book, self.scheme, book) is not None:
                return InvalidBook
        elif deed[0] == "drop":
            if deed[1] not in range(len(book)):
                return NoDependency
            book = tuple(one for at, one in enumerate(book) if at != deed[1])
        else:
            for one in deed[1] if deed[0] == "all" else (deed,):
                store = self.edited(store, one)
                if isinstance(store, type):
                    return store
        for index, dependency in enumerate(book):
            found = breaches(self.scheme, store, dependency)
            if found:
                return Breach, index, min(found)
        return book, store

    def do(self, deed):
        """Carry out the deed, or return its error: a class, or Breach with its attributes."""
        if deed[0] in ("undo", "redo"):
            source, other = (self.states, self.ahead) if deed[0] == "undo" else (self.ahead, self.states)
            if not source:
                return NothingToUndo if deed[0] == "undo" else NothingToRedo
            other.append(self.now)
            self.now = source.pop()
        else:
            told = self.after(deed)
            if isinstance(told, type) or told[0] is Breach:
                return told
            self.states.append(self.now)
            self.ahead = []
            self.now = told
        self.journal.append(deed)
        return None


class WorksTest(unittest.TestCase):
    def setUp(self):
        self.works = Works(SCHEME, BOOK, STORE)

    def refused(self, error, deed, works=None):
        """The deed raises just this error and changes nothing."""
        works = self.works if works is None else works
        before = works.book(), works.store(), works.journal()
        told = raised(works.do, deed)
        self.assertIs(type(told), error, deed)
        self.assertIsInstance(told, TableError)
        self.assertEqual((works.book(), works.store(), works.journal()), before)
        return told

    def breached(self, index, rows, deed, works=None):
        told = self.refused(Breach, deed, works)
        self.assertEqual((told.index, told.rows), (index, rows))

    def test_beginning(self):
        self.assertEqual(self.works.book(), BOOK)
        self.assertEqual(self.works.store(), STORE)
        self.assertEqual(self.works.journal(), ())
        self.assertEqual(Works((1,), (), ((),)).store(), ((),))

    def test_a_first_store_that_does_not_keep_the_book(self):
        told = raised(Works, SCHEME, BOOK, (((1, 5), (1, 6), (2, 8), (2, 9)), ((5,),)))
        self.assertIs(type(told), Breach)
        self.assertEqual((told.index, told.rows), (0, ((1, 5), (1, 6))))
        told = raised(Works, SCHEME, BOOK[::-1], (((1, 5), (1, 6), (2, 8), (2, 9)), ((5,),)))
        self.assertEqual((told.index, told.rows), (0, ((1, 6),)))
        told = raised(Works, (2,), (("settles", 0, (), ()), ("deals", 0, (), (0,))), (((1, 2), (3, 4)),))
        self.assertEqual((told.index, told.rows), (1, ((1, 2), (3, 4))))

    def test_insert(self):
        self.assertIsNone(self.works.do(("insert", 0, (0, 6))))
        self.assertEqual(self.works.store(), (((0, 6), (1, 5), (2, 5)), ((5,), (6,))))
        self.works.do(("insert", 1, (0,)))
        self.assertEqual(self.works.store(), (((0, 6), (1, 5), (2, 5)), ((0,), (5,), (6,))))
        self.assertEqual(self.works.book(), BOOK)

    def test_remove(self):
        self.assertIsNone(self.works.do(("remove", 0, (1, 5))))
        self.assertEqual(self.works.store(), (((2, 5),), ((5,), (6,))))
        self.works.do(("remove", 0, (2, 5)))
        self.works.do(("remove", 1, (5,)))
        self.assertEqual(self.works.store(), ((), ((6,),)))

    def test_change(self):
        self.assertIsNone(self.works.do(("change", 0, (1, 5), (9, 6))))
        self.assertEqual(self.works.store(), (((2, 5), (9, 6)), ((5,), (6,))))

    def test_no_table(self):
        for table in (2, -1, -2, LONG, -LONG):
            # Whatever the rows are, this comes first.
            for rows in (((1, 5),), ((-1,),), ((),), ((1, 2, 3),)):
                self.refused(NoTable, ("insert", table) + rows)
                self.refused(NoTable, ("remove", table) + rows)
                self.refused(NoTable, ("change", table) + rows + rows)

    def test_rows_of_another_width_or_with_unknown_values(self):
        for row in ((), (1,), (1, 5, 0), (-1, 5), (1, -LONG), (-1,), (LONG,) * 3):
            self.refused(InvalidStore, ("insert", 0, row))
            self.refused(InvalidStore, ("remove", 0, row))
            self.refused(InvalidStore, ("change", 0, row, (3, 5)))
            self.refused(InvalidStore, ("change", 0, (1, 5), row))
            # Ahead of NoRow and of DoubledRow.
            self.refused(InvalidStore, ("change", 0, (7, 7), row))
            self.refused(InvalidStore, ("change", 0, row, (1, 5)))
        self.refused(InvalidStore, ("insert", 1, ()))

    def test_no_row(self):
        self.refused(NoRow, ("remove", 0, (1, 6)))
        self.refused(NoRow, ("remove", 1, (LONG,)))
        self.refused(NoRow, ("change", 0, (1, 6), (3, 5)))
        # Ahead of DoubledRow, and of what the book would not keep.
        self.refused(NoRow, ("change", 0, (1, 6), (1, 5)))
        self.refused(NoRow, ("change", 0, (1, 6), (1, 6)))
        self.refused(NoRow, ("change", 0, (7, 7), (1, 7)))

    def test_doubled_row(self):
        self.refused(DoubledRow, ("insert", 0, (1, 5)))
        self.refused(DoubledRow, ("change", 0, (1, 5), (2, 5)))
        self.refused(DoubledRow, ("change", 0, (1, 5), (1, 5)))

    def test_breach_comes_last(self):
        self.breached(0, ((1, 5), (1, 6)), ("insert", 0, (1, 6)))
        self.breached(0, ((1, 4), (1, 5)), ("insert", 0, (1, 4)))
        self.breached(1, ((3, 7),), ("insert", 0, (3, 7)))
        self.breached(1, ((1, 5),), ("remove", 1, (5,)))
        self.breached(1, ((1, 5),), ("change", 1, (5,), (7,)))
        self.breached(0, ((2, 5), (2, 6)), ("change", 0, (1, 5), (2, 6)))

    def test_the_least_number_and_the_least_breach(self):
        works = Works((3,), (("deals", 0, (0,), (1,)), ("settles", 0, (1,), (2,))), (((1, 1, 1), (2, 2, 2)),))
        # Both are not kept then; of the first one (1, 1, 1) and (1, 2, 2) is the least breach.
        self.breached(0, ((1, 1, 1), (1, 2, 9)), ("insert", 0, (1, 2, 9)), works)
        self.breached(1, ((2, 2, 2), (3, 2, 3)), ("insert", 0, (3, 2, 3)), works)

    def test_long_values(self):
        self.works.do(("insert", 1, (LONG,)))
        self.works.do(("insert", 0, (LONG + 1, LONG)))
        self.assertEqual(self.works.store()[0][-1], (LONG + 1, LONG))
        self.breached(1, ((LONG + 1, LONG),), ("remove", 1, (LONG,)))
        self.refused(DoubledRow, ("insert", 1, (LONG,)))

    def test_all_is_looked_at_behind_the_last_deed_alone(self):
        self.breached(1, ((3, 7),), ("insert", 0, (3, 7)))
        self.works.do(("all", (("insert", 0, (3, 7)), ("insert", 1, (7,)))))
        self.assertEqual(self.works.store(), (((1, 5), (2, 5), (3, 7)), ((5,), (6,), (7,))))
        self.works.do(("all", (("change", 1, (5,), (8,)), ("change", 0, (1, 5), (1, 8)), ("remove", 0, (2, 5)))))
        self.assertEqual(self.works.store(), (((1, 8), (3, 7)), ((6,), (7,), (8,))))
        self.breached(1, ((1, 8),), ("all", (("remove", 1, (8,)), ("remove", 1, (6,)))))

    def test_all_without_deeds(self):
        self.works.do(("insert", 0, (3, 6)))
        self.works.do(("all", ()))
        self.assertEqual(self.works.store()[0], ((1, 5), (2, 5), (3, 6)))
        self.works.do(("undo",))
        # It was the last deed, so the one before is not undone yet.
        self.assertEqual(self.works.store()[0], ((1, 5), (2, 5), (3, 6)))
        self.works.do(("undo",))
        self.assertEqual(self.works.store(), STORE)

    def test_all_puts_a_row_in_and_takes_it_away_again(self):
        self.works.do(("all", (("insert", 0, (1, 9)), ("remove", 0, (1, 9)))))
        self.assertEqual(self.works.store(), STORE)
        self.works.do(("all", (("remove", 0, (1, 5)), ("insert", 0, (1, 5)))))
        self.assertEqual(self.works.store(), STORE)
        self.assertEqual(len(self.works.journal()), 2)

    def test_all_looks_at_one_deed_after_the_other(self):
        first = ("insert", 0, (3, 6))
        self.refused(DoubledRow, ("all", (first, first)))
        self.refused(NoRow, ("all", (("remove", 0, (1, 5)), ("change", 0, (1, 5), (3, 5)))))
        self.refused(NoTable, ("all", (first, ("insert", 2, (1,)))))
        self.refused(InvalidStore, ("all", (first, ("insert", 1, (-1,)))))
        # The first wrong one tells the error, also where a later one is wrong in an earlier way.
        self.refused(NoRow, ("all", (first, ("remove", 0, (7, 7)), ("insert", 9, ()))))
        # The rows of the first deed break the book, but a wrong deed comes ahead of it.
        self.refused(NoRow, ("all", (("insert", 0, (1, 6)), ("remove", 0, (7, 7)))))
        self.assertEqual(self.works.store(), STORE)

    def test_state(self):
        dependency = ("deals", 0, (1,), (0,))
        self.assertIsNone(self.works.do(("state", dependency)))
        self.assertEqual(self.works.book(), BOOK + (dependency,))
        self.works.do(("state", dependency))
        self.assertEqual(self.works.book(), BOOK + (dependency, dependency))
        self.assertEqual(self.works.store(), STORE)

    def test_state_of_what_is_not_right(self):
        for dependency in (
                ("settles", 2, (0,), (0,)), ("settles", -1, (0,), ()), ("settles", LONG, (), ()),
                ("settles", 0, (2,), (0,)), ("settles", 0, (-1,), ()), ("settles", 0, (), (LONG,)),
                ("settles", 0, (1, 0), ()), ("settles", 0, (0, 0), ()), ("deals", 0, (), (1, 0)),
                ("deals", 0, (0, 1, 2), ()), ("deals", 5, (), ()), ("joins", 0, ()), ("joins", 0, ((),)),
                ("joins", 0, ((0,),)), ("joins", 0, ((0, 1), ())), ("joins", 0, ((1, 0),)), ("joins", 0, ((0, 1, 2),)),
                ("joins", 2, ((0,),)), ("joins", 0, ((0,), (-1, 1))), ("within", 0, (), 1, ()),
                ("within", 0, (0, 1), 1, (0,)), ("within", 0, (0, 0), 1, (0, 0)), ("within", 0, (0,), 0, (1,)),
                ("within", 0, (2,), 1, (0,)), ("within", 0, (0,), 1, (1,)), ("within", 0, (0,), 2, (0,)),
                ("within", -1, (0,), 1, (0,)), ("within", 0, (0,), -LONG, (0,))):
            self.refused(InvalidBook, ("state", dependency))

    def test_state_of_what_makes_a_ring(self):
        self.refused(InvalidBook, ("state", ("within", 1, (0,), 0, (0,))))
        works = Works((1, 1, 1), (("within", 0, (0,), 1, (0,)), ("within", 1, (0,), 2, (0,))), ((), (), ()))
        self.refused(InvalidBook, ("state", ("within", 2, (0,), 0, (0,))), works)
        # Without the second dependency there is no ring any more.
        works.do(("drop", 1))
        works.do(("state", ("within", 2, (0,), 0, (0,))))
        self.refused(InvalidBook, ("state", ("within", 1, (0,), 2, (0,))), works)

    def test_state_of_what_the_store_does_not_keep(self):
        self.breached(2, ((1, 5), (2, 5)), ("state", ("settles", 0, (1,), (0,))))
        self.breached(2, ((1, 5),), ("state", ("within", 0, (0,), 1, (0,))))
        self.works.do(("state", ("deals", 0, (), (0,))))
        self.breached(3, ((1, 5), (2, 5)), ("state", ("settles", 0, (), (0,))))
        # The row (0, 0, 0) is missing; its parts are in the first, the third and the second row.
        works = Works((3,), (), (((0, 0, 1), (0, 1, 0), (1, 0, 0)),))
        self.breached(0, ((0, 0, 1), (1, 0, 0), (0, 1, 0)), ("state", ("joins", 0, ((0, 1), (1, 2), (0, 2)))), works)

    def test_drop(self):
        self.assertIsNone(self.works.do(("drop", 0)))
        self.assertEqual(self.works.book(), BOOK[1:])
        self.works.do(("insert", 0, (1, 6)))
        self.works.do(("drop", 0))
        self.assertEqual(self.works.book(), ())
        self.works.do(("remove", 1, (5,)))
        self.assertEqual(self.works.store(), (((1, 5), (1, 6), (2, 5)), ((6,),)))

    def test_drop_of_a_number_that_there_is_not(self):
        for index in (2, 3, -1, -2, LONG, -LONG):
            self.refused(NoDependency, ("drop", index))
        self.works.do(("drop", 1))
        self.refused(NoDependency, ("drop", 1))
        self.works.do(("drop", 0))
        self.refused(NoDependency, ("drop", 0))

    def test_undo_and_redo_from_end_to_end(self):
        deeds = (("insert", 0, (3, 6)), ("state", ("settles", 1, (0,), (0,))), ("drop", 0),
                 ("all", (("remove", 0, (1, 5)), ("insert", 1, (7,)))), ("change", 0, (3, 6), (2, 6)), ("all", ()))
        states = [(self.works.book(), self.works.store())]
        for deed in deeds:
            self.works.do(deed)
            states.append((self.works.book(), self.works.store()))
        self.refused(NothingToRedo, ("redo",))
        for _ in range(2):
            for state in states[-2::-1]:
                self.works.do(("undo",))
                self.assertEqual((self.works.book(), self.works.store()), state)
            self.refused(NothingToUndo, ("undo",))
            for state in states[1:]:
                self.works.do(("redo",))
                self.assertEqual((self.works.book(), self.works.store()), state)
            self.refused(NothingToRedo, ("redo",))
        self.assertEqual(self.works.journal(), deeds + ((("undo",),) * 6 + (("redo",),) * 6) * 2)

    def test_nothing_to_undo_or_redo_at_the_beginning(self):
        self.refused(NothingToUndo, ("undo",))
        self.refused(NothingToRedo, ("redo",))

    def test_a_deed_in_between_makes_redo_impossible(self):
        self.works.do(("insert", 0, (3, 6)))
        self.works.do(("insert", 0, (4, 6)))
        self.works.do(("undo",))
        self.works.do(("undo",))
        self.works.do(("redo",))
        self.works.do(("insert", 1, (9,)))
        self.refused(NothingToRedo, ("redo",))
        self.works.do(("undo",))
        self.assertEqual(self.works.store(), (((1, 5), (2, 5), (3, 6)), ((5,), (6,))))
        self.works.do(("redo",))
        self.assertEqual(self.works.store()[1], ((5,), (6,), (9,)))

    def test_an_empty_all_in_between_makes_redo_impossible(self):
        self.works.do(("insert", 0, (3, 6)))
        self.works.do(("undo",))
        self.works.do(("all", ()))
        self.refused(NothingToRedo, ("redo",))

    def test_a_deed_that_raises_an_error_does_not(self):
        self.works.do(("insert", 0, (3, 6)))
        self.works.do(("insert", 0, (4, 6)))
        self.works.do(("undo",))
        for error, deed in ((NoTable, ("insert", 7, (1,))), (InvalidStore, ("insert", 0, (1,))),
                            (NoRow, ("remove", 0, (9, 9))), (DoubledRow, ("insert", 0, (3, 6))),
                            (Breach, ("insert", 0, (3, 5))), (InvalidBook, ("state", ("settles", 3, (), ()))),
                            (NoDependency, ("drop", 2)), (NoRow, ("all", (("remove", 0, (9, 9)),))),
                            (Breach, ("state", ("settles", 0, (), (0,))))):
            self.refused(error, deed)
        self.works.do(("redo",))
        self.assertEqual(self.works.store()[0], ((1, 5), (2, 5), (3, 6), (4, 6)))
        self.works.do(("undo",))
        self.works.do(("undo",))
        self.assertEqual(self.works.store(), STORE)
        self.refused(NothingToUndo, ("undo",))
        self.works.do(("redo",))
        self.assertEqual(self.works.store()[0], ((1, 5), (2, 5), (3, 6)))

    def test_the_journal_cannot_be_changed_from_outside(self):
        self.works.do(("insert", 0, (3, 6)))
        told = self.works.journal()
        self.assertIsInstance(told, tuple)
        self.works.do(("undo",))
        self.assertEqual(told, (("insert", 0, (3, 6)),))
        self.assertEqual(self.works.journal(), (("insert", 0, (3, 6)), ("undo",)))

    def test_two_works_are_apart(self):
        other = Works(SCHEME, BOOK, STORE)
        self.works.do(("insert", 0, (3, 6)))
        self.assertEqual(other.store(), STORE)
        self.assertEqual(other.journal(), ())


class ReplayedTest(unittest.TestCase):
    JOURNAL = (("insert", 0, (3, 6)), ("undo",), ("redo",), ("drop", 0), ("undo",), ("all", (("insert", 1, (9,)),)))

    def test_a_list_and_a_tuple(self):
        told = Works(SCHEME, BOOK, STORE)
        for deed in self.JOURNAL:
            told.do(deed)
        for journal in (self.JOURNAL, list(self.JOURNAL), told.journal()):
            works = replayed(SCHEME, BOOK, STORE, journal)
            self.assertIsInstance(works, Works)
            self.assertEqual((works.book(), works.store(), works.journal()),
                             (told.book(), told.store(), self.JOURNAL))

    def test_the_list_may_be_changed_afterwards(self):
        journal = list(self.JOURNAL)
        works = replayed(SCHEME, BOOK, STORE, journal)
        self.assertEqual(journal, list(self.JOURNAL))
        journal.clear()
        self.assertEqual(works.journal(), self.JOURNAL)
        works.do(("insert", 1, (10,)))
        self.assertEqual(journal, [])

    def test_no_deeds(self):
        self.assertEqual(replayed(SCHEME, BOOK, STORE, ()).store(), STORE)
        self.assertEqual(replayed(SCHEME, BOOK, STORE, []).journal(), ())

    def test_the_error_of_the_first_deed_that_raises_one(self):
        for wrong, error in ((("insert", 9, ()), NoTable), (("undo",), None), (("redo",), NothingToRedo),
                             (("drop", -1), NoDependency), (("insert", 0, (1, 6)), Breach)):
            told = raised(replayed, SCHEME, BOOK, STORE, [("insert", 0, (3, 6)), wrong, ("remove", 0, (8, 8))])
            self.assertIs(type(told), NoRow if error is None else error)
        told = raised(replayed, SCHEME, BOOK, STORE, [("insert", 0, (1, 6))])
        self.assertEqual((told.index, told.rows), (0, ((1, 5), (1, 6))))
        self.assertIs(type(raised(replayed, SCHEME, BOOK, STORE, (("undo",),))), NothingToUndo)

    def test_a_first_store_that_does_not_keep_the_book(self):
        told = raised(replayed, SCHEME, BOOK, (((1, 5),), ()), [("insert", 9, ())])
        self.assertIs(type(told), Breach)
        self.assertEqual((told.index, told.rows), (1, ((1, 5),)))


class ByChanceTest(unittest.TestCase):
    def row(self, chance, width):
        if chance.random() < 0.05:
            return tuple(chance.randint(-1, 2) for _ in range(chance.randint(0, 4)))
        return tuple(chance.randint(0, 2) for _ in range(width))

    def edit(self, chance, scheme):
        kind = chance.choice(("insert", "insert", "remove", "change"))
        table = chance.randint(-1, len(scheme)) if chance.random() < 0.05 else chance.randrange(len(scheme))
        width = scheme[table] if 0 <= table < len(scheme) else 2
        return (kind, table) + tuple(self.row(chance, width) for _ in range(2 if kind == "change" else 1))

    def deed(self, chance, scheme):
        kind = chance.choice(("edit", "edit", "edit", "all", "state", "drop", "undo", "undo", "redo", "redo"))
        if kind == "edit":
            return self.edit(chance, scheme)
        if kind == "all":
            return kind, tuple(self.edit(chance, scheme) for _ in range(chance.randint(0, 3)))
        if kind == "state":
            if chance.random() < 0.2:
                return kind, ("settles", chance.randint(-1, 3), some_set(chance, 4), some_set(chance, 4))
            return kind, some_dependency(chance, scheme, chance.sample(range(len(scheme)), len(scheme)))
        if kind == "drop":
            return kind, chance.randint(-1, 3)
        return (kind,)

    def test_against_the_plain_words(self):
        chance = random.Random(71)
        seen = {}
        for _ in range(40):
            scheme = tuple(chance.randint(1, 3) for _ in range(chance.randint(1, 3)))
            book = some_book(chance, scheme, 2)
            store = ((),) * len(scheme)
            works, plain = Works(scheme, book, store), PlainWorks(scheme, book, store)
            for _ in range(60):
                deed = self.deed(chance, scheme)
                told = raised(works.do, deed)
                wanted = plain.do(deed)
                if isinstance(wanted, tuple):
                    self.assertEqual((type(told), told.index, told.rows), wanted, deed)
                else:
                    self.assertIs(None if told is None else type(told), wanted, deed)
                self.assertEqual((works.book(), works.store()), plain.now)
                self.assertIsNone(check_store(scheme, works.store()))
                seen[type(told)] = seen.get(type(told), 0) + 1
            self.assertEqual(works.journal(), tuple(plain.journal))
            again = replayed(scheme, book, store, list(works.journal()))
            self.assertEqual((again.book(), again.store()), plain.now)
        for error in (type(None), NoTable, InvalidStore, NoRow, DoubledRow, NoDependency, InvalidBook, Breach,
                      NothingToUndo, NothingToRedo):
            self.assertGreater(seen.get(error, 0), 10, error)

    def test_two_hundred_deeds_and_rows(self):
        book = (("settles", 0, (0,), (1, 2)), ("deals", 0, (0,), (3,)), ("joins", 0, ((0, 1, 2), (0, 3))),
                ("within", 0, (3,), 1, (0,)))
        works = Works((4, 1), book, ((), ((0,), (1,), (2,))))
        deeds = [("insert", 0, (k, k % 5, k % 7, k % 3)) for k in range(150)]
        deeds += [("undo",)] * 25 + [("redo",)] * 25
        before = copy.deepcopy(deeds)
        for deed in deeds:
            works.do(deed)
        self.assertEqual(len(works.store()[0]), 150)
        self.assertEqual(deeds, before)
        self.assertEqual(works.journal(), tuple(deeds))
