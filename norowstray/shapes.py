"""What several modules ask of rows, of sets of columns and of dependencies."""

from itertools import combinations


def values_at(row, columns):
    """Return the tuple of the row's values in the columns."""
    return tuple([row[column] for column in columns])


def parts_of(scheme, dependency):
    """Return the parts of a join dependency, or the two parts that a "deals" dependency joins."""
    if dependency[0] == "joins":
        return dependency[2]
    _, table, left, right = dependency
    dealt = tuple(sorted(set(left + right)))
    rest = tuple([column for column in range(scheme[table]) if column in left or column not in right])
    return dealt, rest


def store_of(tables):
    """Return the store with these rows, which may be in any order and there more than once."""
    return tuple([tuple(sorted(set(rows))) for rows in tables])


def subsets(numbers):
    """Return a list of the subsets of a list of ascending numbers, fewer first, then the least as tuples."""
    found = []
    for many in range(len(numbers) + 1):
        found.extend(list(combinations(numbers, many)))
    return found


def column_sets(width):
    """Return a list of all sets of columns of a table, fewer columns first, then the least as tuples."""
    return subsets(list(range(width)))


def lies_within(numbers, others):
    """Return True if all of the numbers are among the others."""
    return all([number in others for number in numbers])


def has_one_within(found, numbers):
    """Return True if one of the sets that are found lies within the numbers."""
    return any([lies_within(one, numbers) for one in found])


def sets_by_mark(columns, marks):
    """Return the sets of the columns with equal marks, ordered by their least columns."""
    sets = {}
    for column, mark in zip(columns, marks):
        sets.setdefault(mark, []).append(column)
    return tuple([tuple(one) for one in sets.values()])


def largest_sets(sets):
    """Return the sets without those that lie within unlike ones, and of equal ones the first."""
    kept = []
    for columns in sets:
        if columns not in kept and not any([lies_within(columns, one) for one in sets if one != columns]):
            kept.append(columns)
    return tuple(kept)
