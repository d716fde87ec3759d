"""What follows from a book: verdicts, derivations and their judge."""

from norowstray.bearing import bearing, goal_of
from norowstray.chasing import Chaser, needed_steps
from norowstray.shapes import parts_of, store_of
from norowstray.steps import take_step
from norowstray.tableaux import Tableau
from norowstray.wishes import is_met, showing_rows, value_for


def start(scheme, dependency):
    """Return the start of the dependency, a store."""
    kind = dependency[0]
    width = scheme[dependency[1]]
    every = tuple(range(width))
    if kind == "settles":
        rows = [start_row(width, every, 0), start_row(width, dependency[2], width)]
    elif kind == "within":
        rows = [start_row(width, every, 0)]
    else:
        parts = parts_of(scheme, dependency)
        rows = [start_row(width, part, width * (at + 1)) for at, part in enumerate(parts)]
    return store_of([rows if table == dependency[1] else [] for table in range(len(scheme))])


def start_row(width, columns, further):
    """Return the row with the columns' own values there, and further ones in all others."""
    return tuple([value_for(column if column in columns else further + column) for column in range(width)])


def wished(scheme, book, dependency):
    """Return the chaser of the dependency's start when its chase is at an end."""
    chaser = Chaser(scheme, book, start(scheme, dependency), dependency)
    chaser.run()
    return chaser


def follows(scheme, book, dependency):
    """Return True if the dependency follows from the book, otherwise False."""
    # A chase might do much else before it comes to this one.
    if dependency in book:
        return True
    telling = bearing(book, goal_of(dependency))
    return is_met(wished(scheme, telling, dependency).tableau, dependency)


def verdict(scheme, book, dependency):
    """Return ("follows", derivation), or ("stray", store) with a store that breaks the wish."""
    chaser = wished(scheme, book, dependency)
    if is_met(chaser.tableau, dependency):
        shown = showing_rows(chaser.tableau, dependency)
        return "follows", needed_steps(book, chaser.trace, shown)
    return "stray", known_store(chaser.tableau.store())


def known_store(store):
    """Return the store with a known value of its own in the place of each unknown value."""
    return store_of([[tuple([-1 - value for value in row]) for row in rows] for rows in store])


def judge(scheme, book, dependency, steps):
    """Return True if the steps are a derivation of the dependency, otherwise False."""
    return derives(Tableau(scheme, book, start(scheme, dependency)), dependency, steps)


def derives(tableau, dependency, steps):
    """Return True if the steps are right one after the other and the wish is met then."""
    for step in steps:
        if take_step(tableau, step) is None:
            return False
    return is_met(tableau, dependency)


def lean_derivation(scheme, book, dependency, steps):
    """Return the lean derivation of a derivation."""
    tableau = Tableau(scheme, book, start(scheme, dependency))
    marks = []
    for step in steps:
        marks.append(tableau.mark())
        take_step(tableau, step)
    # Those ahead of a step are all still there when it is its turn, so the store ahead of it is
    # the same as in the whole derivation, and only those behind it need to be tried again.
    kept = []
    for at in range(len(steps) - 1, -1, -1):
        tableau.go_back(marks[at])
        if not derives(tableau, dependency, kept[::-1]):
            kept.append(steps[at])
    return tuple(kept[::-1])
