"""Completing stores that lack rows: the chase, sure rows, and clashes with their judge."""

from norowstray.chasing import Chaser, needed_steps
from norowstray.steps import take_step
from norowstray.tableaux import Tableau


def chased(scheme, book, store):
    """Return the chaser of a store when its chase is at an end."""
    chaser = Chaser(scheme, book, store, None)
    chaser.run()
    return chaser


def chase(scheme, book, store):
    """Return a store at the end of a chase, or None if there is a clash."""
    chaser = chased(scheme, book, store)
    return None if chaser.clashed else chaser.tableau.store()


def sure_rows(scheme, book, store):
    """Return for each table the tuple of its sure rows, or None if there is a clash."""
    completed = chase(scheme, book, store)
    if completed is None:
        return None
    return tuple([tuple([row for row in rows if is_known(row)]) for rows in completed])


def is_known(row):
    """Return True if all values of the row are known."""
    return all([value >= 0 for value in row])


def clash(scheme, book, store):
    """Return steps that show a clash, or None if there is none."""
    chaser = chased(scheme, book, store)
    if not chaser.clashed:
        return None
    return needed_steps(book, chaser.trace, [])


def judge_clash(scheme, book, store, steps):
    """Return True if the steps show a clash of the store, otherwise False."""
    tableau = Tableau(scheme, book, store)
    for number, step in enumerate(steps):
        changes = take_step(tableau, step)
        if changes is None:
            return False
        if not changes:
            return number == len(steps) - 1
    return False
