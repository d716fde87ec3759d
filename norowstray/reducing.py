"""Projections without idle rows, joins that are counted and not made, and projections that agree without a join."""

from norowstray.joining import projection
from norowstray.shapes import column_sets, largest_sets, values_at
from norowstray.trees import columns_of, reached, tree_of


def reduced(parts, pairs, projections):
    """Return the projections to the parts of this tree without their idle rows."""
    kept = list(projections)
    ways = ways_out(pairs)
    # Going in, each part comes to have the rows alone that all parts behind it fit; going out, the
    # others come to have those that fit what is ahead of them as well.
    for near, far in ways[::-1]:
        kept[near] = fitting(parts[near], kept[near], parts[far], kept[far])
    for near, far in ways:
        kept[far] = fitting(parts[far], kept[far], parts[near], kept[near])
    return tuple([tuple(sorted(set(rows))) for rows in kept])


def ways_out(pairs):
    """Return the pairs of a tree, each one turned so that it leads on from part 0 or from an earlier pair."""
    nearer = reached(pairs, 0)
    return [(nearer[number], number) for number in nearer if number != 0]


def fitting(part, rows, other, other_rows):
    """Return the rows that agree with some row of the other part on what both share."""
    there = {values: True for values in projection(other_rows, shared_places(other, part))}
    places = shared_places(part, other)
    return [row for row in rows if values_at(row, places) in there]


def shared_places(part, other):
    """Return the places in a part of the columns that the other one has as well."""
    return [place for place, column in enumerate(part) if column in other]


def join_count(parts, pairs, projections):
    """Return the number of rows of the join of projections to the parts of this tree."""
    # For each row: in how many ways it can be joined with rows of the parts behind its own.
    counts = [{row: 1 for row in rows} for rows in projections]
    for near, far in ways_out(pairs)[::-1]:
        totals = {}
        places = shared_places(parts[far], parts[near])
        for row, many in counts[far].items():
            values = values_at(row, places)
            totals[values] = totals.get(values, 0) + many
        places = shared_places(parts[near], parts[far])
        counts[near] = {row: many * totals.get(values_at(row, places), 0) for row, many in counts[near].items()}
    return sum(counts[0].values())


def agree_in_pairs(parts, projections):
    """Return True if the projections to any two parts are the same on what both share, otherwise False."""
    for at, part in enumerate(parts):
        for other_at in range(at):
            other = parts[other_at]
            mine = projection(projections[at], shared_places(part, other))
            if mine != projection(projections[other_at], shared_places(other, part)):
                return False
    return True


def agreeing_without_join(parts):
    """Return projections to the parts that agree in pairs and have no join, or None if the parts fold to a tree."""
    core = least_core(parts)
    if core is None:
        return None
    # Within the core the parts are either the sides of a ring or all sets of all columns but one,
    # so each column of the core is in equally many sides. The values there in the rows of a side
    # add up to 0, modulo this many, and in those of the first side to 1. What two sides share may
    # be anything, so they agree; and no row fits all sides, as all their sums together would be 1,
    # but also so many times the values of the core.
    sides = cut(parts, core)
    many = len([side for side in sides if core[0] in side])
    return tuple([tuple(core_rows(part, core, sides, many)) for part in parts])


def least_core(parts):
    """Return the least set of columns within which the parts do not fold to a tree, or None."""
    for core in column_sets(len(columns_of(parts))):
        # Fewer than three columns make no ring.
        if len(core) > 2 and tree_of(cut(parts, core)) is None:
            return core
    return None


def cut(parts, core):
    """Return what the parts have of the columns of the core, the largest sets alone."""
    return largest_sets([inside(part, core) for part in parts])


def inside(part, core):
    """Return the columns of the part that the core has."""
    return tuple([column for column in part if column in core])


def core_rows(part, core, sides, many):
    """Return the rows of a part: values modulo many in the core and 0 elsewhere, with the sum of a side."""
    rows = [()]
    for column in part:
        values = list(range(many)) if column in core else [0]
        rows = [row + (value,) for row in rows for value in values]
    side = inside(part, core)
    if side not in sides:
        return rows
    told = 1 if side == sides[0] else 0
    return [row for row in rows if sum(row) % many == told]
