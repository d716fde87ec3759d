"""Closures of sets of columns, keys, and bases."""

from norowstray.bearing import bearing
from norowstray.following import wished
from norowstray.shapes import column_sets, has_one_within, sets_by_mark
from norowstray.wishes import other_row, wished_row


def closure(scheme, book, table, columns):
    """Return the closure of a set of columns of the table."""
    return closure_and_basis(scheme, book, table, columns)[0]


def basis(scheme, book, table, columns):
    """Return the basis of a set of columns of the table."""
    return closure_and_basis(scheme, book, table, columns)[1]


def closure_and_basis(scheme, book, table, columns):
    """Return the closure and the basis of a set of columns of the table."""
    # Two rows that agree on the columns alone are, but for the names of their values, the start of
    # each "settles" and each "deals" dependency with this left, so one chase tells of all of them.
    every = tuple(range(scheme[table]))
    wish = ("settles", table, columns, every)
    tableau = wished(scheme, bearing(book, table), wish).tableau
    first = wished_row(tableau, wish)
    second = other_row(tableau, wish)
    closed = tuple([column for column in every if first[column] == second[column]])
    others = [column for column in every if column not in columns]
    marks = [mark_of(column, closed, first, tableau.tables[table]) for column in others]
    return closed, sets_by_mark(others, marks)


def mark_of(column, closed, first, rows):
    """Return what columns of one set of the basis have in common."""
    # What is settled is dealt as well, each column by itself.
    if column in closed:
        return column
    # Each row has in each column the value of one of the first two rows. The columns where it is
    # that of the first one are dealt, and columns that are never told apart so belong together.
    return tuple([row[column] == first[column] for row in rows])


def keys(scheme, book, table):
    """Return the keys of the table, fewer columns first, then the least as tuples."""
    found = []
    for columns in column_sets(scheme[table]):
        if not has_one_within(found, columns) and len(closure(scheme, book, table, columns)) == scheme[table]:
            found.append(columns)
    return tuple(found)
