"""Stores from which a row is taken away with all that needs it, or into which one is put with all that it needs."""

from norowstray.chasing import others_first
from norowstray.completing import sure_rows
from norowstray.holding import keeps_all
from norowstray.shapes import store_of, values_at


def taken_away(scheme, book, store, table, row):
    """Return the greatest store within the store, without the row, that keeps the inclusions."""
    tables = list(store)
    tables[table] = tuple([one for one in tables[table] if one != row])
    # What a table is within has lost all that it loses when it is the table's turn.
    for at in others_first(len(scheme), book):
        for dependency in book:
            if dependency[0] == "within" and dependency[1] == at:
                tables[at] = matched_rows(tables, dependency)
    return tuple(tables)


def matched_rows(tables, dependency):
    """Return the rows that have what they need in the other table of the inclusion."""
    _, table, columns, other, others = dependency
    there = {values_at(row, others): True for row in tables[other]}
    return tuple([row for row in tables[table] if values_at(row, columns) in there])


def put_in(scheme, book, store, table, row):
    """Return the least store of the book that has the store and the row, or None if there is none."""
    larger = [rows + (row,) if at == table else rows for at, rows in enumerate(store)]
    sure = sure_rows(scheme, book, store_of(larger))
    if sure is None or not keeps_all(scheme, sure, book):
        return None
    return sure
