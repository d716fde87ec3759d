"""Books of one table of functional dependencies alone: their cover, and the synthesis."""

from norowstray.books import lean_book
from norowstray.following import follows
from norowstray.keys import keys
from norowstray.shapes import has_one_within, largest_sets


def cover(scheme, book):
    """Return the cover of the book, a tuple of dependencies."""
    short = tuple([with_short_left(scheme, book, one) for one in settling_one_column(book)])
    # A lean book is looked at from its last dependency on, a cover from the first one on.
    return lean_book(scheme, short[::-1])[::-1]


def settling_one_column(book):
    """Return for each dependency, and each column of its right outside its left, the one that settles this alone."""
    return [(kind, table, left, (column,)) for kind, table, left, right in book
            for column in right if column not in left]


def with_short_left(scheme, book, dependency):
    """Return the dependency without the columns of its left that can be left out one after the other."""
    kind, table, left, right = dependency
    short = left
    for column in left:
        fewer = tuple([one for one in short if one != column])
        if follows(scheme, book, (kind, table, fewer, right)):
            short = fewer
    return kind, table, short, right


def synthesis(scheme, book):
    """Return the synthesis of the book, a tuple of sets of columns."""
    together = {}
    for _, _, left, right in cover(scheme, book):
        together[left] = together.get(left, left) + right
    sets = [tuple(sorted(columns)) for columns in together.values()]
    least_first = keys(scheme, book, 0)
    if not any([has_one_within(least_first, columns) for columns in sets]):
        sets.append(least_first[0])
    return largest_sets(sets)
