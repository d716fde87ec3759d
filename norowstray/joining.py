"""Projections, joins, and what is lost when a table is parted."""

from norowstray.following import verdict
from norowstray.matching import first_rows, made_rows, some_made_row
from norowstray.shapes import values_at


def projection(rows, columns):
    """Return the projection of rows to a set of columns."""
    return tuple(sorted({values_at(row, columns) for row in rows}))


def join(width, projections, parts):
    """Return the join of projections to parts that have all columns together."""
    choices = [{row: True for row in rows} for rows in projections]
    return tuple(sorted(made_rows(width, parts, choices, {})))


def stray_rows(width, rows, parts):
    """Return the stray rows of a table for the parts."""
    return tuple(sorted(made_rows(width, parts, projected(rows, parts), present(rows))))


def projected(rows, parts):
    """Return for each part a dict of the projections of the rows to it."""
    return [first_rows(rows, part) for part in parts]


def present(rows):
    """Return a dict of the rows."""
    return {row: True for row in rows}


def loss(scheme, book, table, parts):
    """Return None if the table is parted without loss, or else a store and a stray row of it."""
    told, store = verdict(scheme, book, ("joins", table, parts))
    if told == "follows":
        return None
    rows = store[table]
    return store, some_made_row(scheme[table], parts, projected(rows, parts), present(rows))[0]
