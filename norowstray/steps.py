"""The steps of a chase: which are right, and what they change."""

from norowstray.shapes import parts_of, values_at


def take_step(tableau, step):
    """Carry a step out in the tableau, and return the list of its changes.

    A change is a table, the row as it was, None for a new one, and the row as it is. A clash
    changes nothing. The answer is None if the step is not right.
    """
    index = step[1]
    if not 0 <= index < len(tableau.book):
        return None
    dependency = tableau.book[index]
    kind = dependency[0]
    if step[0] == "equal" and kind == "settles":
        return make_equal(tableau, dependency, step[2], step[3])
    if step[0] == "row" and kind in ("deals", "joins"):
        return make_row(tableau, dependency, step[2])
    if step[0] == "put" and kind == "within":
        return make_match(tableau, index, step[2])
    return None


def make_equal(tableau, dependency, row, other):
    """Carry out an "equal" step as take_step does."""
    _, table, left, right = dependency
    if not tableau.has(table, row) or not tableau.has(table, other):
        return None
    if values_at(row, left) != values_at(other, left):
        return None
    for column in right:
        if row[column] != other[column]:
            low = min(row[column], other[column])
            # The lesser value is known only if both are.
            return [] if low >= 0 else tableau.merge(low, max(row[column], other[column]))
    return None


def make_row(tableau, dependency, rows):
    """Carry out a "row" step as take_step does."""
    table = dependency[1]
    parts = parts_of(tableau.scheme, dependency)
    if len(rows) != len(parts):
        return None
    for row in rows:
        if not tableau.has(table, row):
            return None
    made = fitted(tableau.scheme[table], parts, rows)
    if made is None or tableau.has(table, made):
        return None
    tableau.enter(table, made)
    return [(table, None, made)]


def fitted(width, parts, rows):
    """Return the row that agrees with each of the rows on its part, or None if there is none."""
    values = {}
    for part, row in zip(parts, rows):
        for column in part:
            if values.setdefault(column, row[column]) != row[column]:
                return None
    return tuple([values[column] for column in range(width)])


def make_match(tableau, index, row):
    """Carry out a "put" step as take_step does."""
    _, table, columns, other, others = tableau.book[index]
    if not tableau.has(table, row):
        return None
    wanted = values_at(row, columns)
    if tableau.is_matched(index, wanted):
        return None
    values = dict(zip(others, wanted))
    for column in range(tableau.scheme[other]):
        if column not in values:
            values[column] = tableau.new_value()
    made = tuple([values[column] for column in range(tableau.scheme[other])])
    tableau.enter(other, made)
    return [(other, None, made)]
