"""Which dependencies of a book bear on what a chase tells of a table."""

from norowstray.shapes import lies_within


def bearing(book, goal):
    """Return those dependencies that bear on the rows of the goal or make values the same.

    A chase with these alone tells the same of both, and tables that bear on neither, which may
    become very large ones, stay without rows.
    """
    near = leading_to(book, [goal] + settling_tables(book))
    return tuple([dependency for dependency in book if dependency[1] in near
                  and (dependency[0] != "within" or dependency[3] in near)])


def settling_tables(book):
    """Return the tables of the "settles" dependencies of the book that say something."""
    settling = [dependency for dependency in book if dependency[0] == "settles"]
    return [table for _, table, left, right in settling if not lies_within(right, left)]


def leading_to(book, goals):
    """Return the goals and the tables from which inclusions of the book lead to one of them."""
    near = list(goals)
    many = 0
    while len(near) > many:
        many = len(near)
        for dependency in book:
            if dependency[0] == "within" and dependency[3] in near and dependency[1] not in near:
                near.append(dependency[1])
    return near


def goal_of(dependency):
    """Return the table whose rows tell whether the dependency is met."""
    return dependency[3] if dependency[0] == "within" else dependency[1]
