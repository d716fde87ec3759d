"""The fourth normal form, redundant cells, and parting a table by dealt columns."""

from norowstray.following import verdict
from norowstray.holding import keeps_all
from norowstray.keys import closure, closure_and_basis
from norowstray.shapes import column_sets, largest_sets, lies_within, subsets


def form_breach(scheme, book, table):
    """Return the least breach of the fourth normal form, or None."""
    for left in column_sets(scheme[table]):
        closed, sets = closure_and_basis(scheme, book, table, left)
        # With one set in the basis, what is dealt and lies outside left is all there is.
        if len(closed) < scheme[table] and len(sets) > 1:
            return left, sets[0]
    return None


def is_redundant(scheme, book, store, table, row, column):
    """Return True if the cell is redundant in the store, which keeps the book, otherwise False."""
    touched = [dependency for dependency in book if table in tables_of(dependency)]
    for value in telling_values(touched, store, table, column):
        if value != row[column] and keeps_all(scheme, changed(store, table, row, column, value), touched):
            return False
    return True


def tables_of(dependency):
    """Return the tables that the dependency looks at."""
    return (dependency[1], dependency[3]) if dependency[0] == "within" else (dependency[1],)


def telling_values(book, store, table, column):
    """Return values of which at least one keeps the book in a cell of the column, if any value does."""
    values = [row[column] for row in store[table]]
    for dependency in book:
        if dependency[0] == "within" and dependency[1] == table and column in dependency[2]:
            _, _, columns, other, others = dependency
            at = others[columns.index(column)]
            values.extend([row[at] for row in store[other]])
    # A cell is compared with those of its column and of the columns that it is within; what stands
    # in columns that are within its own one, stands in this as well. So all values that are not
    # among these are alike, and one stands for all.
    return [max(values) + 1] + sorted(set(values))


def changed(store, table, row, column, value):
    """Return the store with the value in the cell."""
    other = row[:column] + (value,) + row[column + 1:]
    rows = tuple(sorted({other if one == row else one for one in store[table]}))
    return store[:table] + (rows,) + store[table + 1:]


def redundant_cell(scheme, book):
    """Return a store of one table, a row and a column of a redundant cell, or None if there is none."""
    breach = form_breach(scheme, book, 0)
    if breach is None:
        return None
    left, right = breach
    _, store = verdict(scheme, book, ("settles", 0, left, tuple(range(scheme[0]))))
    # All rows agree on left. If left settles another column, each cell there is told by the other
    # rows. If it settles none, the rows are all that the sets of the basis make of two rows, and
    # each row is one that two others deal.
    settled = [column for column in closure(scheme, book, 0, left) if column not in left]
    return store, store[0][0], (settled + list(right))[0]


def parted(scheme, book, table):
    """Return the told parting of the table, a tuple of sets of columns."""
    every = tuple(range(scheme[table]))
    told = {left: closure_and_basis(scheme, book, table, left) for left in column_sets(scheme[table])}
    return largest_sets(parted_set(told, every))


def parted_set(told, columns):
    """Return a list of the sets into which a set of columns is parted."""
    halves = first_halves(told, columns)
    if halves is None:
        return [columns]
    first, second = halves
    return parted_set(told, first) + parted_set(told, second)


def first_halves(told, columns):
    """Return the two sets into which the set of columns is parted first, or None if it stays."""
    for left in subsets(list(columns)):
        closed, sets = told[left]
        if not lies_within(columns, closed):
            rights = [tuple([column for column in one if column in columns]) for one in sets]
            rights = [right for right in rights if right and len(left + right) < len(columns)]
            if rights:
                right = min(rights)
                return tuple(sorted(left + right)), tuple([column for column in columns if column not in right])
    return None
