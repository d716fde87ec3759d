"""The fourth normal form, redundant cells, and parting a table by dealt columns."""

from norowstray.following import verdict
from norowstray.holding import keeps_all
from norowstray.keys import closure, closure_and_basis
from norowstray.shapes import column_sets, largest_sets, lies_within, subsets


def form_breach(scheme, book, table):
    """Return the least breach of the fourth normal form, or None."""
    for left in column_sets(scheme[table]):
        closed, sets = closure_and_basis(scheme, book, table, left)
        # With one set in the basis, what is dealt and lies outside left is all there is.
        if len(closed) < scheme[table] and len(sets) > 1:
            return left, sets[0]
    return None


def is_redundant(scheme, book, store, table, row, column):
    """Return True if the cell is redundant in the store, which keeps the book, otherwise False."""
    touched = [dependency for dependency in book if column in columns_of(scheme, dependency, table)]
    for value in telling_values(touched, store, table, column):
        if value != row[column] and keeps_all(scheme, changed(store, table, row, column, value), touched):
            return False
    return True


def columns_of(scheme, dependency, table):
    """Return the columns of the table that the dependency looks at."""
    kind = dependency[0]
    if kind == "within" and dependency[3] == table:
        return dependency[4]
    if dependency[1] != table:
        return ()
    if kind == "settles":
        return dependency[2] + dependency[3]
    return dependency[2] if kind == "within" else tuple(range(scheme[table]))


def telling_values(touched, store, table, column):
    """Return values of which at least one keeps the book in the cell, if any value does."""
    places = [(table, column)]
    for dependency in touched:
        if dependency[0] == "within":
            places.extend(linked_places(dependency, (table, column)))
    values = sorted({row[at] for other, at in places for row in store[other]})
    # A dependency compares a cell with those of the places alone, so all the values that stand in
    # none of them are alike, and one stands for all.
    return [values[-1] + 1] + values


def linked_places(inclusion, place):
    """Return the places, pairs of a table and a column, with which the inclusion compares the place."""
    _, table, columns, other, others = inclusion
    links = [((table, column), (other, at)) for column, at in zip(columns, others)]
    return [two for one, two in links if one == place] + [one for one, two in links if two == place]


def changed(store, table, row, column, value):
    """Return the store with the value in the cell."""
    other = row[:column] + (value,) + row[column + 1:]
    rows = tuple(sorted({other if one == row else one for one in store[table]}))
    return store[:table] + (rows,) + store[table + 1:]


def redundant_cell(scheme, book):
    """Return a store of one table, a row and a column of a redundant cell, or None if there is none."""
    breach = form_breach(scheme, book, 0)
    if breach is None:
        return None
    left, right = breach
    _, store = verdict(scheme, book, ("settles", 0, left, tuple(range(scheme[0]))))
    # All rows agree on left. If left settles another column, each cell there is told by the other
    # rows. If it settles none, the rows are all that the sets of the basis make of two rows, and
    # each row is one that two others deal.
    settled = [column for column in closure(scheme, book, 0, left) if column not in left]
    return store, store[0][0], (settled + list(right))[0]


def parted(scheme, book, table):
    """Return the told parting of the table, a tuple of sets of columns."""
    every = tuple(range(scheme[table]))
    told = {left: closure_and_basis(scheme, book, table, left) for left in column_sets(scheme[table])}
    return largest_sets(parted_set(told, every))


def parted_set(told, columns):
    """Return a list of the sets into which a set of columns is parted."""
    halves = first_halves(told, columns)
    if halves is None:
        return [columns]
    first, second = halves
    return parted_set(told, first) + parted_set(told, second)


def first_halves(told, columns):
    """Return the two sets into which the set of columns is parted first, or None if it stays."""
    for left in subsets(list(columns)):
        closed, sets = told[left]
        if not lies_within(columns, closed):
            rights = [tuple([column for column in one if column in columns]) for one in sets]
            rights = [right for right in rights if right and len(left + right) < len(columns)]
            if rights:
                right = min(rights)
                return tuple(sorted(left + right)), tuple([column for column in columns if column not in right])
    return None
