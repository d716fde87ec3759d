"""What several modules ask of rows and of dependencies."""


def values_at(row, columns):
    """Return the tuple of the row's values in the columns."""
    return tuple([row[column] for column in columns])


def parts_of(scheme, dependency):
    """Return the parts of a join dependency, or the two parts that a "deals" dependency joins."""
    if dependency[0] == "joins":
        return dependency[2]
    _, table, left, right = dependency
    dealt = tuple(sorted(set(left + right)))
    rest = tuple([column for column in range(scheme[table]) if column in left or column not in right])
    return dealt, rest


def store_of(tables):
    """Return the store with these rows, which may be in any order and there more than once."""
    return tuple([tuple(sorted(set(rows))) for rows in tables])
