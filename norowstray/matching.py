"""Rows, one for each part, that fit together, and the rows that they make."""

from norowstray.shapes import values_at


def first_rows(rows, part):
    """Return a dict with the first row that has it for each projection of the rows to the part."""
    firsts = {}
    for row in rows:
        firsts.setdefault(values_at(row, part), row)
    return firsts


def connected_order(parts):
    """Return numbers of parts with all columns, each one sharing much with those before it."""
    known = []
    order = []
    waiting = [number for number in range(len(parts)) if parts[number]]
    while waiting:
        best = waiting[0]
        for number in waiting:
            if count_shared(parts[number], known) > count_shared(parts[best], known):
                best = number
        order.append(best)
        known = known + [column for column in parts[best] if column not in known]
        waiting = [number for number in waiting if count_shared(parts[number], known) < len(parts[number])]
    return order


def count_shared(part, known):
    """Return how many columns of the part are known."""
    return len([column for column in part if column in known])


def made_rows(width, parts, choices, present):
    """Return all rows that fit the parts and are not present.

    Choices has for each part a dict whose keys are the projections that may be taken.
    """
    return Search(width, parts, choices, connected_order(parts), present).run(False)


def some_made_row(width, parts, choices, present):
    """Return a list of one row that fits the parts and is not present, or of none."""
    return Search(width, parts, choices, connected_order(parts), present).run(True)


def first_made_row(width, parts, choices, present):
    """Return a list as some_made_row does, of the row that comes first.

    The choices for the first part count most, then those for the second one, and so on.
    """
    return Search(width, parts, choices, list(range(len(parts))), present).run(True)


def chosen_rows(parts, choices, row):
    """Return the tuple of what the choices have for the projections of a row."""
    return tuple([choice[values_at(row, part)] for part, choice in zip(parts, choices)])


class Search:
    """A search that takes a projection for one part after the other, in a told order."""

    def __init__(self, width, parts, choices, order, present):
        self.chosen = [0] * width
        self.present = present
        self.found = []
        self.possible = all([len(choice) > 0 for choice in choices])
        self.levels = []
        known = []
        for number in order:
            part = parts[number]
            old = [column for column in part if column in known]
            # A part without new columns leaves nothing to choose: the parts ahead of it look at it.
            if len(old) < len(part):
                fresh = [column for column in part if column not in known]
                known = known + fresh
                looks = [look_of(parts[other], choices[other], known) for other in range(len(parts))
                         if other != number and count_shared(parts[other], fresh) > 0]
                self.levels.append((part, old, grouped(part, choices[number], old), looks))

    def run(self, only_first):
        """Return the list of all rows that are found, or of the first one alone."""
        if self.possible:
            self.go(0, only_first)
        return self.found

    def go(self, level, only_first):
        """Find the rows, or only the first one, that have the values chosen so far."""
        if level == len(self.levels):
            row = tuple(self.chosen)
            if row not in self.present:
                self.found.append(row)
            return
        part, old, groups, looks = self.levels[level]
        for projection in groups.get(values_at(self.chosen, old), []):
            for column, value in zip(part, projection):
                self.chosen[column] = value
            if self.may_go_on(looks):
                self.go(level + 1, only_first)
                if only_first and self.found:
                    return

    def may_go_on(self, looks):
        """Return True if each other part has a projection with the values chosen so far."""
        for columns, there in looks:
            if values_at(self.chosen, columns) not in there:
                return False
        return True


def look_of(part, choice, known):
    """Return the known columns of a part and a dict of the values there that it allows."""
    columns = [column for column in part if column in known]
    places = [part.index(column) for column in columns]
    return columns, {values_at(projection, places): True for projection in choice}


def grouped(part, choice, old):
    """Return a dict with the projections of a part by their values in the old columns."""
    places = [part.index(column) for column in old]
    groups = {}
    for projection in choice:
        groups.setdefault(values_at(projection, places), []).append(projection)
    return groups
