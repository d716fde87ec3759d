"""Whether a store keeps dependencies, and the least breaches of those that it does not keep."""

from norowstray.matching import chosen_rows, first_made_row, first_rows, some_made_row
from norowstray.shapes import parts_of, values_at


def keeps(scheme, store, dependency):
    """Return True if the store keeps the dependency, otherwise False."""
    if dependency[0] not in ("deals", "joins"):
        return least_breach(scheme, store, dependency) is None
    table = dependency[1]
    parts = parts_of(scheme, dependency)
    choices = [first_rows(store[table], part) for part in parts]
    present = {row: True for row in store[table]}
    # The parts may be gone through in a better order here than for the least breach.
    return not some_made_row(scheme[table], parts, choices, present)


def keeps_all(scheme, store, book):
    """Return True if the store keeps all dependencies of the book, otherwise False."""
    for dependency in book:
        if not keeps(scheme, store, dependency):
            return False
    return True


def least_breach(scheme, store, dependency):
    """Return the least breach of the dependency in the store, or None if it is kept."""
    kind = dependency[0]
    rows = store[dependency[1]]
    if kind == "settles":
        return settled_breach(rows, dependency[2], dependency[3])
    if kind == "within":
        return inclusion_breach(rows, dependency[2], store[dependency[3]], dependency[4])
    return joined_breach(scheme[dependency[1]], rows, parts_of(scheme, dependency))


def settled_breach(rows, left, right):
    """Return the least two rows that agree on left and not on right, or None."""
    firsts = {}
    least = None
    for row in rows:
        first = firsts.setdefault(values_at(row, left), row)
        if values_at(first, right) != values_at(row, right):
            # The rows ascend, so of two breaches with one first row the earlier one is the lesser.
            if least is None or first < least[0]:
                least = (first, row)
    return least


def inclusion_breach(rows, columns, other_rows, others):
    """Return the least row, in a tuple, that has no row in the other table, or None."""
    there = {values_at(row, others): True for row in other_rows}
    for row in rows:
        if values_at(row, columns) not in there:
            return (row,)
    return None


def joined_breach(width, rows, parts):
    """Return the least rows, one for each part, that fit and make a missing row, or None."""
    # Of all rows with one projection to a part the first one is the least that can be taken.
    choices = [first_rows(rows, part) for part in parts]
    found = first_made_row(width, parts, choices, {row: True for row in rows})
    if not found:
        return None
    return chosen_rows(parts, choices, found[0])
