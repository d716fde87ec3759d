"""Tables that keep just those dependencies that follow from a book."""

from norowstray.following import verdict
from norowstray.shapes import column_sets


def exact_table(scheme, book):
    """Return the rows of an exact table of the book of one table."""
    rows = []
    for part in breaking_tables(scheme, book):
        # Rows with no value in common agree on no left that has a column, so for such a left all the
        # rows keep what each part keeps; and for the empty left the book has nothing to be kept.
        further = 1 + max([value for row in rows for value in row], default=-1)
        rows.extend([tuple([further + value for value in row]) for row in part])
    return tuple(sorted(rows))


def breaking_tables(scheme, book):
    """Return tables that keep the book and of which, for each left, one breaks what does not follow."""
    every = tuple(range(scheme[0]))
    tables = []
    for left in column_sets(scheme[0]):
        told, shown = verdict(scheme, book, ("settles", 0, left, every))
        if told == "stray":
            # It has what a chase makes of two rows that agree on left alone, and so it breaks all
            # that does not follow, whatever the right is, "deals" dependencies as well.
            tables.append(shown[0])
    return tables
