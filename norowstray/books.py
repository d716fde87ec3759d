"""Books that say the same, lean books, supports, and all inclusions of a book."""

from norowstray.bearing import bearing
from norowstray.completing import chase
from norowstray.following import follows, start
from norowstray.mining import held_inclusions
from norowstray.shapes import has_one_within, subsets


def alike(scheme, one, other):
    """Return True if each book follows from the other one, otherwise False."""
    return all_follow(scheme, one, other) and all_follow(scheme, other, one)


def all_follow(scheme, book, wishes):
    """Return True if all the wishes follow from the book."""
    return all([follows(scheme, book, wish) for wish in wishes])


def lean_book(scheme, book):
    """Return the book without those that follow from others, looked at from the last one on."""
    kept = book
    for index in range(len(book) - 1, -1, -1):
        # Those ahead of it are all still there, so its number is still the same.
        others = kept[:index] + kept[index + 1:]
        if follows(scheme, others, kept[index]):
            kept = others
    return kept


def supports(scheme, book, dependency):
    """Return the supports of the dependency, fewer numbers first, then the least as tuples."""
    found = []
    # Without this all the smaller books are asked in vain.
    if not follows(scheme, book, dependency):
        return ()
    for numbers in subsets(list(range(len(book)))):
        chosen = tuple([book[number] for number in numbers])
        if not has_one_within(found, numbers) and follows(scheme, chosen, dependency):
            found.append(numbers)
    return tuple(found)


def all_inclusions(scheme, book, table, other):
    """Return all inclusions of the table in the other one that follow from the book."""
    # The start of each of them is the same row, and no table of a book has inclusions in itself:
    # so the table still has one row at the end, and the inclusions that are held there follow.
    begun = start(scheme, ("within", table, (0,), other, (0,)))
    return held_inclusions(scheme, chase(scheme, bearing(book, other), begun), table, other)
