"""Trees of the parts of a join, their dealt halves, and joins without a tree."""

from norowstray.following import verdict
from norowstray.keys import basis
from norowstray.matching import count_shared
from norowstray.shapes import column_sets, largest_sets


def tree_of(parts):
    """Return a tree of the parts, or None if they do not fold to one."""
    pairs = closest_pairs(parts)
    # In each tree on all parts a column is shared by at most one pair fewer than it has parts, and
    # in a tree of the parts by just so many. So if there is one, then each tree on all parts whose
    # pairs share as many columns as can be is one, too.
    return pairs if is_tree(parts, pairs) else None


def closest_pairs(parts):
    """Return the pairs of a tree on all parts whose pairs share as many columns as can be."""
    pairs = []
    newest = 0
    # For each part that is not in the tree: how much it shares with one that is, and which one.
    closest = {number: (-1, 0) for number in range(1, len(parts))}
    while closest:
        for number in list(closest):
            shared = count_shared(parts[number], parts[newest])
            if shared > closest[number][0]:
                closest[number] = (shared, newest)
        newest = max(closest, key=lambda one: closest[one][0])
        pairs.append((closest[newest][1], newest))
        del closest[newest]
    return tuple(pairs)


def is_tree(parts, pairs):
    """Return True if the pairs are a tree of the parts, otherwise False."""
    if not is_tree_on(len(parts), pairs):
        return False
    for column in columns_of(parts):
        having = [part for part in parts if column in part]
        sharing = [pair for pair in pairs if column in parts[pair[0]] and column in parts[pair[1]]]
        # There is no ring, so the parts that have the column hang together if this many pairs do.
        if len(sharing) != len(having) - 1:
            return False
    return True


def is_tree_on(many, pairs):
    """Return True if the pairs are a tree on so many numbers, otherwise False."""
    if len(pairs) != many - 1:
        return False
    for one, other in pairs:
        if not (0 <= one < many and 0 <= other < many):
            return False
    # With so few pairs all hang together only if there is no ring.
    return len(reached(pairs, 0)) == many


def reached(pairs, number):
    """Return a dict of the numbers to which pairs lead from a number, itself included.

    It has for each one the number next to it on the way back, and is ordered from near to far.
    """
    beside = {number: []}
    for one, other in pairs:
        beside.setdefault(one, []).append(other)
        beside.setdefault(other, []).append(one)
    nearer = {number: number}
    waiting = [number]
    while waiting:
        here = waiting.pop()
        for other in beside[here]:
            if other not in nearer:
                nearer[other] = here
                waiting.append(other)
    return nearer


def columns_of(parts):
    """Return a list of the columns of all the parts, in ascending order."""
    return sorted({column for part in parts for column in part})


def dealt_halves(parts, pairs):
    """Return the dealt halves of a tree of the parts, for each pair in order."""
    halves = []
    for at, (one, other) in enumerate(pairs):
        shared = tuple([column for column in parts[one] if column in parts[other]])
        near = reached(pairs[:at] + pairs[at + 1:], one)
        side = columns_of([parts[number] for number in near])
        halves.append(("deals", 0, shared, tuple([column for column in side if column not in shared])))
    return tuple(halves)


def not_a_tree(parts):
    """Return the rows of a table that keeps what the join deals and not the join, or None for a tree."""
    if tree_of(parts) is not None:
        return None
    # A part within another one asks for nothing more, and each one makes the table larger.
    joined = ("joins", 0, largest_sets(parts))
    scheme = (len(columns_of(parts)),)
    _, store = verdict(scheme, dealt_by(scheme, joined), joined)
    return store[0]


def dealt_by(scheme, joined):
    """Return "deals" dependencies from which all follow that follow from the join dependency."""
    dealt = []
    for left in column_sets(scheme[0]):
        # What is dealt is made of sets of the basis, and the last one is what the others leave.
        for right in basis(scheme, (joined,), 0, left)[:-1]:
            dealt.append(("deals", 0, left, right))
    return tuple(dealt)
