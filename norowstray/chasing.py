"""The chase: takes steps until a store keeps its book, a wish is met, or there is a clash."""

from norowstray.matching import chosen_rows, first_rows, made_rows
from norowstray.shapes import parts_of, values_at
from norowstray.steps import take_step
from norowstray.tableaux import Tableau
from norowstray.wishes import is_met, wished_row


def others_first(many, book):
    """Return the numbers of the tables so that each one stands behind those it is within."""
    order = []
    while len(order) < many:
        for table in range(many):
            others = [one[3] for one in book if one[0] == "within" and one[1] == table]
            if table not in order and all([other in order for other in others]):
                order.append(table)
    return order


def numbers_of(scheme, book, kinds):
    """Return for each table the numbers of its dependencies of these kinds."""
    numbers = [[] for _ in scheme]
    for index, dependency in enumerate(book):
        if dependency[0] in kinds:
            numbers[dependency[1]].append(index)
    return numbers


class Chaser:
    """A chase of a store; the wish is a dependency that ends it when it is met, or None.

    The trace has pairs of a step and its changes. Uncompared are places whose rows are to be
    compared with the leader of their kind: a row for each "settles" dependency and each choice of
    values on its left. Unmatched are rows that may have to put rows into other tables, and unjoined
    is True for the dependencies for which rows may be missing.
    """

    def __init__(self, scheme, book, store, wish):
        self.tableau = Tableau(scheme, book, store)
        self.wish = wish
        self.trace = []
        self.clashed = False
        self.order = others_first(len(scheme), book)
        self.settling = numbers_of(scheme, book, ("settles",))
        self.putting = numbers_of(scheme, book, ("within",))
        self.joining = numbers_of(scheme, book, ("deals", "joins"))
        self.uncompared = []
        self.leaders = {}
        self.unmatched = [[] for _ in scheme]
        self.unjoined = {}
        for table, rows in enumerate(store):
            for row in rows:
                self.welcome(table, row)

    def welcome(self, table, row):
        """Note a row that has come in, or has changed."""
        self.uncompared.append((table, row))
        self.unmatched[table].append(row)
        for index in self.joining[table]:
            self.unjoined[index] = True

    def run(self):
        """Take steps until nothing is left to do."""
        self.settle()
        while not self.is_done() and self.go_on():
            self.settle()

    def is_done(self):
        """Return True if there is a clash, or the wish is met."""
        return self.clashed or (self.wish is not None and is_met(self.tableau, self.wish))

    def go_on(self):
        """Put some missing rows in, and return True, or False if none is missing."""
        # Fewer new values come up if a table has all its rows before others put rows into it,
        # and fewer rows if what is told of the others has been used before a table is joined.
        for table in self.order:
            if self.put_all(table) or self.join_some(table):
                return True
        return False

    def do(self, step):
        """Take a right step."""
        changes = take_step(self.tableau, step)
        self.trace.append((step, changes))
        self.clashed = not changes
        for table, _, row in changes:
            self.welcome(table, row)

    def settle(self):
        """Take "equal" steps until there is none, or a clash."""
        while self.uncompared and not self.clashed:
            table, row = self.uncompared.pop()
            if self.tableau.has(table, row):
                self.compare(table, row)

    def compare(self, table, row):
        """Compare a row with the leaders, and take the first "equal" step that there is."""
        for index in self.settling[table]:
            _, _, left, right = self.tableau.book[index]
            place = (index, values_at(row, left))
            leader = self.leaders.get(place)
            if leader is None or not self.tableau.has(table, leader):
                # A leader that has changed is not compared yet itself, and stands for its followers.
                self.leaders[place] = row
            elif values_at(row, right) != values_at(leader, right):
                self.do(("equal", index, leader, row))
                self.uncompared.append((table, row))
                return

    def put_all(self, table):
        """Take the "put" steps of the rows of a table; return True if there was one."""
        rows = [row for row in self.unmatched[table] if self.tableau.has(table, row)]
        self.unmatched[table] = []
        many = len(self.trace)
        for row in rows:
            for index in self.putting[table]:
                if not self.tableau.is_matched(index, values_at(row, self.tableau.book[index][2])):
                    self.do(("put", index, row))
        return len(self.trace) > many

    def join_some(self, table):
        """Take the "row" steps of a dependency of the table; return True if there was one."""
        for index in self.joining[table]:
            if self.unjoined.get(index, False):
                many = len(self.trace)
                self.join_all(table, index)
                # No row is missing for the joined projections themselves.
                self.unjoined[index] = False
                if len(self.trace) > many:
                    return True
        return False

    def join_all(self, table, index):
        """Take the "row" steps of a dependency, or the only one that meets the wish."""
        parts = parts_of(self.tableau.scheme, self.tableau.book[index])
        rows = self.tableau.tables[table]
        choices = [first_rows(rows, part) for part in parts]
        missing = self.wished_rows(table, parts, choices)
        if not missing:
            missing = made_rows(self.tableau.scheme[table], parts, choices, rows)
        for row in missing:
            self.do(("row", index, chosen_rows(parts, choices, row)))

    def wished_rows(self, table, parts, choices):
        """Return a list of the row that meets the wish if it can be joined, or of none."""
        if self.wish is None or self.wish[0] not in ("deals", "joins") or self.wish[1] != table:
            return []
        row = wished_row(self.tableau, self.wish)
        if all([values_at(row, part) in choice for part, choice in zip(parts, choices)]):
            return [row]
        return []


def needed_steps(book, trace, shown):
    """Return the steps without some that are not needed for the rows shown.

    Shown are places, pairs of a table and a row, at the end. All "equal" steps stay, and all "put"
    steps ahead of one that stays, as the values of the rows behind them depend on them.
    """
    needed = {place: True for place in shown}
    steps = []
    putting = False
    for step, changes in reversed(trace):
        kind = step[0]
        made = [(other, row) for other, _, row in changes]
        if kind == "equal" or made[0] in needed or (kind == "put" and putting):
            steps.append(step)
            putting = putting or kind == "put"
            note_needed(needed, changes, book[step[1]][1], step[2] if kind == "row" else step[2:])
    return tuple(steps[::-1])


def note_needed(needed, changes, table, rows):
    """Make what is needed behind a step what is needed before it, for its rows and changes."""
    for other, old, row in changes:
        if (other, row) in needed:
            del needed[(other, row)]
            if old is not None:
                needed[(other, old)] = True
    for row in rows:
        needed[(table, row)] = True
