"""What rows and stores keep: settled columns, keys, inclusions and dealt columns."""

from norowstray.holding import keeps
from norowstray.joining import projection
from norowstray.shapes import column_sets, has_one_within, sets_by_mark, subsets, values_at


def settled(width, rows):
    """Return the settled columns of the rows, a tuple of pairs of a left and a column."""
    found = []
    lefts = [[] for _ in range(width)]
    for left in column_sets(width):
        for column in agreed_columns(width, rows, left):
            if column not in left and not has_one_within(lefts[column], left):
                lefts[column].append(left)
                found.append((left, column))
    return tuple(found)


def agreed_columns(width, rows, left):
    """Return the columns on which all rows agree that agree on left."""
    firsts = {}
    columns = list(range(width))
    for row in rows:
        first = firsts.setdefault(values_at(row, left), row)
        columns = [column for column in columns if row[column] == first[column]]
    return columns


def found_keys(width, rows):
    """Return the found keys of the rows, fewer columns first, then the least as tuples."""
    found = []
    many = len(set(rows))
    for columns in column_sets(width):
        if not has_one_within(found, columns) and len(projection(rows, columns)) == many:
            found.append(columns)
    return tuple(found)


def dealt(width, rows, columns):
    """Return the finest parting of the other columns into sets that the columns deal in the rows."""
    others = [column for column in range(width) if column not in columns]
    sides = [side for side in subsets(others) if keeps((width,), (rows,), ("deals", 0, columns, side))]
    # What two dealt sets share is dealt as well, so columns that none tells apart belong together.
    return sets_by_mark(others, [tuple([column in side for side in sides]) for column in others])


def held_inclusions(scheme, store, table, other):
    """Return the held inclusions of the table in the other one, pairs of columns and others."""
    mine = {columns: projection(store[table], columns) for columns in column_sets(scheme[table])}
    found = []
    # An inclusion is held only if it is held without its last column on both sides.
    level = {(): [()]}
    while level:
        level = longer_inclusions(level, mine, scheme[other], store[other])
        found.extend(sorted([(columns, others) for others in level for columns in level[others]]))
    return tuple(found)


def longer_inclusions(level, mine, width, rows):
    """Return the held inclusions with one column more on both sides than those of the level.

    Both are dicts that have for others the list of the columns. Mine has the projections of the one
    table, width and rows are those of the other table.
    """
    longer = {}
    for shorter in level:
        for column in range(width):
            if column not in shorter:
                others = shorter + (column,)
                there = {values_at(row, others): True for row in rows}
                held = [columns for columns in mine if columns and columns[:-1] in level[shorter]
                        and all([values in there for values in mine[columns]])]
                if held:
                    longer[others] = held
    return longer
