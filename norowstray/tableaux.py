"""Stores that change by the steps of a chase, and can go back."""

from norowstray.shapes import store_of, values_at


class Tableau:
    """A store of a book that rows enter and leave and in which values become the same.

    A place is a pair of a table and a row. Holders has the places of each unknown value, and heirs
    the value that each value has become that is no more. Arriving has for each table the inclusions
    that lead to it, and matches how many rows have the values that an inclusion looks for.
    """

    def __init__(self, scheme, book, store):
        self.scheme = scheme
        self.book = book
        self.tables = [{} for _ in store]
        self.holders = {}
        self.heirs = {}
        self.arriving = [[] for _ in store]
        self.matches = {}
        self.newest = 0
        self.history = []
        for index, dependency in enumerate(book):
            if dependency[0] == "within":
                self.arriving[dependency[3]].append((index, dependency[4]))
        for table, rows in enumerate(store):
            for row in rows:
                self.put_in(table, row)
        self.spent = {value: True for value in self.holders}

    def put_in(self, table, row):
        """Make the row one of the table, without a note in the history."""
        self.tables[table][row] = True
        for value in row:
            if value < 0:
                if value not in self.holders:
                    self.holders[value] = {}
                self.holders[value][(table, row)] = True
        for index, columns in self.arriving[table]:
            wanted = (index, values_at(row, columns))
            self.matches[wanted] = self.matches.get(wanted, 0) + 1

    def take_out(self, table, row):
        """Take the row out of the table, without a note in the history."""
        del self.tables[table][row]
        for value in row:
            if value < 0:
                self.holders[value].pop((table, row), None)
        for index, columns in self.arriving[table]:
            self.matches[(index, values_at(row, columns))] -= 1

    def has(self, table, row):
        """Return True if the row is in the table."""
        return row in self.tables[table]

    def is_matched(self, index, wanted):
        """Return True if a row of the other table has the values wanted by the inclusion."""
        return self.matches.get((index, wanted), 0) > 0

    def enter(self, table, row):
        """Put a row in that is not there yet."""
        self.put_in(table, row)
        self.history.append(("enter", table, row))

    def merge(self, low, high):
        """Make the lower, unknown value the higher one everywhere.

        Return a list of a table, the row as it was and the row as it is, for each row that changes.
        """
        changes = []
        for table, row in list(self.holders.get(low, {})):
            other = tuple([high if value == low else value for value in row])
            self.take_out(table, row)
            self.history.append(("leave", table, row))
            if not self.has(table, other):
                self.enter(table, other)
            changes.append((table, row, other))
        self.heirs[low] = high
        self.history.append(("merge", low, high))
        return changes

    def heir(self, value):
        """Return the value that the value has become, perhaps itself."""
        while value in self.heirs:
            value = self.heirs[value]
        return value

    def new_value(self):
        """Return the greatest unknown value that is not and was not in the store."""
        self.newest -= 1
        while self.newest in self.spent:
            self.newest -= 1
        return self.newest

    def mark(self):
        """Return a mark of how things are, for go_back."""
        return len(self.history), self.newest

    def go_back(self, mark):
        """Make everything as it was when the mark was told."""
        length, newest = mark
        while len(self.history) > length:
            kind, first, second = self.history.pop()
            if kind == "enter":
                self.take_out(first, second)
            elif kind == "leave":
                self.put_in(first, second)
            else:
                del self.heirs[first]
        self.newest = newest

    def store(self):
        """Return the store as it is now."""
        return store_of(self.tables)
