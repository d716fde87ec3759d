"""What schemes, books and stores must be like."""

from norowstray.errors import InvalidBook, InvalidScheme, InvalidStore


def check_scheme(scheme):
    """Return None if the tuple of integers is a scheme; raise InvalidScheme otherwise."""
    if not scheme:
        raise InvalidScheme("a scheme has at least one table")
    for width in scheme:
        if width < 1:
            raise InvalidScheme("a table has at least one column")


def check_book(scheme, book):
    """Return None if the book is right for the scheme; raise InvalidBook otherwise."""
    for dependency in book:
        check_dependency(scheme, dependency)
    check_no_ring(book)


def check_dependency(scheme, dependency):
    """Raise InvalidBook if the dependency by itself is not right for the scheme."""
    kind = dependency[0]
    if kind == "settles" or kind == "deals":
        _, table, left, right = dependency
        check_sets(table_width(scheme, table), (left, right))
    elif kind == "joins":
        _, table, parts = dependency
        check_parts(table_width(scheme, table), parts)
    elif kind == "within":
        check_inclusion(scheme, dependency)
    else:
        raise InvalidBook("there is no such kind of dependency")


def table_width(scheme, table):
    """Return the width of a table that is there; raise InvalidBook for another one."""
    if not 0 <= table < len(scheme):
        raise InvalidBook("a dependency names a table that there is not")
    return scheme[table]


def check_sets(width, sets):
    """Raise InvalidBook unless all are sets of columns of a table of this width."""
    for columns in sets:
        check_columns_there(width, columns)
        for at in range(1, len(columns)):
            if columns[at - 1] >= columns[at]:
                raise InvalidBook("the columns of a set are not in ascending order without duplicates")


def check_columns_there(width, columns):
    """Raise InvalidBook if a table of this width does not have one of the columns."""
    for column in columns:
        if not 0 <= column < width:
            raise InvalidBook("a dependency names a column that there is not")


def check_parts(width, parts):
    """Raise InvalidBook unless these are the parts of a join dependency."""
    if not parts:
        raise InvalidBook("a join dependency has at least one part")
    for part in parts:
        if not part:
            raise InvalidBook("a part of a join dependency has at least one column")
    check_sets(width, parts)
    # The width may be far beyond what can be counted through, so the columns named are counted.
    if len({column for part in parts for column in part}) != width:
        raise InvalidBook("the parts do not have every column together")


def check_inclusion(scheme, dependency):
    """Raise InvalidBook if an inclusion dependency is not right for the scheme."""
    _, table, columns, other, others = dependency
    check_chosen_columns(table_width(scheme, table), columns)
    check_chosen_columns(table_width(scheme, other), others)
    if table == other:
        raise InvalidBook("an inclusion is between two different tables")
    if len(columns) != len(others):
        raise InvalidBook("an inclusion has equally many columns on both sides")


def check_chosen_columns(width, columns):
    """Raise InvalidBook unless these are columns of one side of an inclusion."""
    if not columns:
        raise InvalidBook("an inclusion has at least one column")
    check_columns_there(width, columns)
    if len(set(columns)) != len(columns):
        raise InvalidBook("an inclusion has a column twice on one side")


def check_no_ring(book):
    """Raise InvalidBook if the inclusions of a book lead from a table back to itself."""
    targets = {}
    sources = {}
    for dependency in book:
        if dependency[0] == "within":
            _, table, _, other, _ = dependency
            targets.setdefault(table, []).append(other)
            targets.setdefault(other, [])
            sources[other] = sources.get(other, 0) + 1
    # A table can be left out when no inclusion leads to it any more; those of a ring never can.
    free = [table for table in targets if table not in sources]
    gone = 0
    while free:
        gone += 1
        table = free.pop()
        for other in targets[table]:
            sources[other] -= 1
            if sources[other] == 0:
                free.append(other)
    if gone != len(targets):
        raise InvalidBook("the inclusions of the book have a ring")


def check_store(scheme, store):
    """Return None if the store is one of the scheme; raise InvalidStore otherwise."""
    if len(store) != len(scheme):
        raise InvalidStore("a store has as many tables as its scheme")
    for width, rows in zip(scheme, store):
        check_rows(width, rows)


def check_rows(width, rows):
    """Raise InvalidStore unless these are the rows of a table of this width."""
    for row in rows:
        if len(row) != width:
            raise InvalidStore("a row has one value for each column")
    for at in range(1, len(rows)):
        if rows[at - 1] >= rows[at]:
            raise InvalidStore("the rows are not in ascending order without duplicates")


def says_nothing(scheme, dependency):
    """Return True if every store of the scheme keeps the dependency, otherwise False."""
    kind = dependency[0]
    width = scheme[dependency[1]]
    if kind == "joins":
        return any([len(part) == width for part in dependency[2]])
    if kind == "within":
        return False
    _, _, left, right = dependency
    together = len(set(left + right))
    return together == len(left) or (kind == "deals" and together == width)
