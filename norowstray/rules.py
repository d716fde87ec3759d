"""Derivations by rules of "settles" and "deals" dependencies of one table."""

from norowstray.errors import InvalidBook
from norowstray.schemes import check_dependency
from norowstray.shapes import column_sets, lies_within

# For each rule the kinds of the earlier lines that it takes.
RULES = {
    "within": (),
    "widen": ("settles",),
    "widen deals": ("deals",),
    "through": ("settles", "settles"),
    "through deals": ("deals", "deals"),
    "rest": ("deals",),
    "deal": ("settles",),
    "meet": ("deals", "settles"),
}


def judge_rules(width, book, lines):
    """Return True if the lines are a derivation by rules from the book, otherwise False."""
    earlier = []
    for reason, dependency in lines:
        if not has_right_sides(width, dependency) or not is_right(width, book, earlier, reason, dependency):
            return False
        earlier.append(dependency)
    return len(earlier) > 0


def has_right_sides(width, dependency):
    """Return True if both sides of the dependency are sets of columns of the width."""
    try:
        check_dependency((width,), dependency)
    except InvalidBook:
        return False
    return True


def is_right(width, book, earlier, reason, dependency):
    """Return True if the dependency is right by the reason behind the dependencies of earlier lines."""
    rule = reason[0]
    numbers = reason[1:]
    if rule == "given":
        return len(numbers) == 1 and 0 <= numbers[0] < len(book) and book[numbers[0]] == dependency
    if rule not in RULES or not all([0 <= number < len(earlier) for number in numbers]):
        return False
    taken = [earlier[number] for number in numbers]
    return takes(rule, taken) and gives(width, rule, taken, dependency)


def takes(rule, taken):
    """Return True if the rule takes as many dependencies, of these kinds."""
    return RULES[rule] == tuple([dependency[0] for dependency in taken])


def gives(width, rule, taken, dependency):
    """Return True if the rule gives the dependency from those that it takes."""
    kind, _, left, right = dependency
    if rule == "within":
        return kind == "settles" and lies_within(right, left)
    if rule in ("widen", "widen deals"):
        return kind == taken[0][0] and is_widened(taken[0], dependency)
    return dependency == given_by(width, rule, taken)


def is_widened(narrow, wide):
    """Return True if the second dependency, of the same kind, is the first one widened."""
    _, _, narrow_left, narrow_right = narrow
    kind, _, left, right = wide
    if not lies_within(narrow_left, left) or not lies_within(narrow_right, right):
        return False
    # Z may have any column of the wide left, and must have those that the narrow one lacks there.
    # What the right gains is in Z, for "deals" as well, and for "settles" all of Z is there.
    gained = [column for column in right if column not in narrow_right]
    needed = [column for column in left if column not in narrow_left]
    return lies_within(gained, left) and (kind == "deals" or lies_within(needed, right))


def given_by(width, rule, taken):
    """Return the one dependency that the rule gives from those that it takes, or None."""
    left, right = taken[0][2:]
    if rule == "deal":
        return "deals", 0, left, right
    if rule == "rest":
        return "deals", 0, left, tuple([column for column in range(width) if column not in left + right])
    other_left, other_right = taken[1][2:]
    if rule == "meet":
        apart = not any([column in right for column in other_left])
        return ("settles", 0, left, other_right) if apart and lies_within(other_right, right) else None
    if other_left != right:
        return None
    if rule == "through":
        return "settles", 0, left, other_right
    return "deals", 0, left, tuple([column for column in other_right if column not in right])


def derived(width, book, dependency):
    """Return a derivation by rules of the dependency, or None if it does not follow."""
    search = RuleSearch(width, book)
    at = 0
    # The rules give all that follows, so what is not found when all lines are used does not follow.
    while dependency not in search.numbers and at < len(search.lines):
        search.use(at)
        at += 1
    if dependency not in search.numbers:
        return None
    return needed_lines(search.lines[:search.numbers[dependency] + 1])


class RuleSearch:
    """Lines that are right by their reasons, each dependency once, and the numbers of their lines."""

    def __init__(self, width, book):
        self.width = width
        self.lines = []
        self.numbers = {}
        sets = column_sets(width)
        self.every = [(kind, 0, left, right) for kind in ("settles", "deals") for left in sets for right in sets]
        for index, dependency in enumerate(book):
            self.note(("given", index), dependency)
        self.apply("within", ())

    def note(self, reason, dependency):
        """Add a line, unless its dependency is there already."""
        if dependency not in self.numbers:
            self.numbers[dependency] = len(self.lines)
            self.lines.append((reason, dependency))

    def use(self, at):
        """Add all lines that the rules give from this line and those ahead of it."""
        for rule, kinds in RULES.items():
            if len(kinds) == 1:
                self.apply(rule, (at,))
            elif len(kinds) == 2:
                for other in range(at + 1):
                    self.apply(rule, (at, other))
                    self.apply(rule, (other, at))

    def apply(self, rule, numbers):
        """Add all lines that the rule gives from the lines with these numbers."""
        taken = [self.lines[number][1] for number in numbers]
        if takes(rule, taken):
            for dependency in self.given(rule, taken):
                self.note((rule,) + numbers, dependency)

    def given(self, rule, taken):
        """Return a list of all dependencies that the rule gives from those that it takes."""
        if rule in ("within", "widen", "widen deals"):
            return [one for one in self.every if gives(self.width, rule, taken, one)]
        dependency = given_by(self.width, rule, taken)
        return [] if dependency is None else [dependency]


def needed_lines(lines):
    """Return the last line and those that it needs, with the numbers that they have among these."""
    needed = {len(lines) - 1: True}
    for at in range(len(lines) - 1, -1, -1):
        reason = lines[at][0]
        if at in needed and reason[0] != "given":
            needed.update({number: True for number in reason[1:]})
    places = {number: place for place, number in enumerate(sorted(needed))}
    return tuple([(renumbered(lines[number][0], places), lines[number][1]) for number in places])


def renumbered(reason, places):
    """Return the reason with the places of the lines that it takes instead of their numbers."""
    if reason[0] == "given":
        return reason
    return reason[:1] + tuple([places[number] for number in reason[1:]])
