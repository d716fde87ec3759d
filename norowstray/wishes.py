"""The wish that a dependency follows: what is told of its start, and when it is met."""

from norowstray.shapes import values_at


def value_for(number):
    """Return the unknown value of a start for a number from 0."""
    return -1 - number


def wished_row(tableau, dependency):
    """Return the row of the values for all columns of the wish's table, as they are now."""
    width = tableau.scheme[dependency[1]]
    return tuple([tableau.heir(value_for(column)) for column in range(width)])


def other_row(tableau, dependency):
    """Return the second row of the start of a "settles" dependency, with its values as they are now."""
    _, table, left, _ = dependency
    width = tableau.scheme[table]
    return tuple([tableau.heir(value_for(column if column in left else width + column)) for column in range(width)])


def is_met(tableau, dependency):
    """Return True if the dependency is met in what has become of its start."""
    kind = dependency[0]
    if kind == "within":
        return len(matching_rows(tableau, dependency)) > 0
    if kind != "settles":
        return tableau.has(dependency[1], wished_row(tableau, dependency))
    right = dependency[3]
    return values_at(wished_row(tableau, dependency), right) == values_at(other_row(tableau, dependency), right)


def matching_rows(tableau, dependency):
    """Return the rows of the other table that an inclusion wishes for."""
    _, _, columns, other, others = dependency
    wanted = values_at(wished_row(tableau, dependency), columns)
    return [row for row in tableau.tables[other] if values_at(row, others) == wanted]


def showing_rows(tableau, dependency):
    """Return the places, pairs of a table and a row, that show that the wish is met."""
    kind = dependency[0]
    if kind == "within":
        return [(dependency[3], matching_rows(tableau, dependency)[0])]
    if kind == "settles":
        return []
    return [(dependency[1], wished_row(tableau, dependency))]
