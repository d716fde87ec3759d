"""Works: a store of a book under edits that can be undone."""

from norowstray.errors import (Breach, DoubledRow, InvalidStore, NoDependency, NoRow, NothingToRedo, NothingToUndo,
                               NoTable)
from norowstray.holding import keeps, least_breach
from norowstray.schemes import check_book


class Works:
    """A scheme, a book and a store that keeps it, and the deeds carried out.

    The state is a pair of the book and the store. Past are the states that "undo" leads back to, the
    last one first, and undone those that "redo" leads on to.
    """

    def __init__(self, scheme, book, store):
        check_kept(scheme, book, store)
        self.scheme = scheme
        self.state = (book, store)
        self.past = []
        self.undone = []
        self.deeds = []

    def do(self, deed):
        """Carry out the deed."""
        if deed[0] == "undo":
            self.go_back()
        elif deed[0] == "redo":
            self.go_on_again()
        else:
            self.carry_out(deed)
        self.deeds.append(deed)

    def carry_out(self, deed):
        """Carry out a deed that can be undone."""
        book, store = self.state
        if deed[0] in ("state", "drop"):
            book = book_after(self.scheme, book, deed)
        else:
            store = store_after(self.scheme, store, deed)
        check_kept(self.scheme, book, store)
        self.past.append(self.state)
        self.undone = []
        self.state = (book, store)

    def go_back(self):
        """Make the state what it was before the last deed that is not undone."""
        if not self.past:
            raise NothingToUndo("no deed is left to be undone")
        self.undone.append(self.state)
        self.state = self.past.pop()

    def go_on_again(self):
        """Make the state what it was before the last deed was undone."""
        if not self.undone:
            raise NothingToRedo("no undone deed is left to be done again")
        self.past.append(self.state)
        self.state = self.undone.pop()

    def book(self):
        """Return the book as it is now."""
        return self.state[0]

    def store(self):
        """Return the store as it is now."""
        return self.state[1]

    def journal(self):
        """Return the tuple of all deeds that were carried out, in order."""
        return tuple(self.deeds)


def replayed(scheme, book, store, journal):
    """Return new works with the deeds of the journal carried out."""
    works = Works(scheme, book, store)
    for deed in journal:
        works.do(deed)
    return works


def check_kept(scheme, book, store):
    """Raise Breach for the first dependency of the book that the store does not keep."""
    for index, dependency in enumerate(book):
        if not keeps(scheme, store, dependency):
            raise Breach(index, least_breach(scheme, store, dependency))


def book_after(scheme, book, deed):
    """Return the book after the deed "state" or "drop"."""
    if deed[0] == "state":
        longer = book + (deed[1],)
        check_book(scheme, longer)
        return longer
    index = deed[1]
    if not 0 <= index < len(book):
        raise NoDependency("the book has no dependency with this number")
    return book[:index] + book[index + 1:]


def store_after(scheme, store, deed):
    """Return the store after the deed "insert", "remove", "change" or "all", whatever the book is."""
    if deed[0] == "all":
        for one in deed[1]:
            store = store_after(scheme, store, one)
        return store
    table = deed[1]
    if not 0 <= table < len(scheme):
        raise NoTable("there is no such table")
    for row in deed[2:]:
        if len(row) != scheme[table] or min(row) < 0:
            raise InvalidStore("a row has one known value for each column")
    return store[:table] + (rows_after(store[table], deed),) + store[table + 1:]


def rows_after(rows, deed):
    """Return the rows of the table after the deed "insert", "remove" or "change"."""
    gone = () if deed[0] == "insert" else deed[2:3]
    new = () if deed[0] == "remove" else deed[-1:]
    for row in gone:
        if row not in rows:
            raise NoRow("the row is not there")
    for row in new:
        if row in rows:
            raise DoubledRow("the row is there already")
    return tuple(sorted([row for row in rows if row not in gone] + list(new)))
