"""What the document says, written down as plainly as can be, to compare the package with."""

from itertools import chain, combinations, product


def rest_of(scheme, dependency):
    """The columns of a "deals" dependency that are neither in left nor in right."""
    _, table, left, right = dependency
    return [c for c in range(scheme[table]) if c not in left and c not in right]


def all_sets(columns):
    """All subsets, fewer first, then the least as tuples."""
    columns = sorted(columns)
    return list(chain.from_iterable(combinations(columns, many) for many in range(len(columns) + 1)))


def finest(columns, is_dealt):
    """The least of the non-empty sets of columns that are dealt, ordered by their least columns."""
    told = [one for one in all_sets(columns) if one and is_dealt(one)]
    return tuple(sorted(one for one in told if not any(set(other) < set(one) for other in told)))


def minimal(sets):
    """Those that have no other one within them, in the given order."""
    return tuple(one for one in sets if not any(set(other) < set(one) for other in sets))


def agree(row, other, columns):
    return all(row[c] == other[c] for c in columns)


def breaches(scheme, store, dependency):
    """All breaches of a dependency in a store."""
    kind, table = dependency[:2]
    rows = store[table]
    if kind == "settles":
        _, _, left, right = dependency
        return [(a, b) for a, b in product(rows, repeat=2) if agree(a, b, left) and not agree(a, b, right)]
    if kind == "within":
        _, _, columns, other, others = dependency
        return [(a,) for a in rows
                if not any(all(a[c] == b[o] for c, o in zip(columns, others)) for b in store[other])]
    if kind == "deals":
        _, _, left, right = dependency
        rest = rest_of(scheme, dependency)
        return [(a, b) for a, b in product(rows, repeat=2) if agree(a, b, left)
                and not any(agree(t, a, left + right) and agree(t, b, left) and agree(t, b, rest) for t in rows)]
    parts = dependency[2]
    found = []
    for chosen in product(rows, repeat=len(parts)):
        fits = all(agree(chosen[i], chosen[j], set(parts[i]) & set(parts[j]))
                   for i in range(len(parts)) for j in range(i))
        if fits and not any(all(agree(t, row, part) for row, part in zip(chosen, parts)) for t in rows):
            found.append(chosen)
    return found


def join_of(width, projections, parts):
    """The join, made by trying all rows of values that occur."""
    values = sorted({v for rows in projections for row in rows for v in row})
    return tuple(row for row in product(values, repeat=width)
                 if all(tuple(row[c] for c in part) in rows for part, rows in zip(parts, projections)))


def project(rows, columns):
    return tuple(sorted({tuple(row[c] for c in columns) for row in rows}))


def missing_row(scheme, dependency, rows):
    """The row that is missing for the rows of a breach of "deals" or "joins"."""
    table = dependency[1]
    row = [None] * scheme[table]
    if dependency[0] == "joins":
        parts = dependency[2]
    else:
        parts = (dependency[2] + dependency[3], dependency[2] + tuple(rest_of(scheme, dependency)))
    for one, part in zip(rows, parts):
        for column in part:
            row[column] = one[column]
    return tuple(row)


class PlainChase:
    """A chase by the document's words alone; told says what each value has become."""

    def __init__(self, scheme, book, store):
        self.scheme, self.book = scheme, book
        self.store = [set(rows) for rows in store]
        self.used = {v for rows in store for row in rows for v in row}
        self.told = {}

    def step(self, step):
        """Carry out a step; return "wrong", "clash" or "done"."""
        if not 0 <= step[1] < len(self.book):
            return "wrong"
        dependency = self.book[step[1]]
        kind = {"settles": "equal", "deals": "row", "joins": "row", "within": "put"}[dependency[0]]
        if step[0] != kind:
            return "wrong"
        rows = step[2] if kind == "row" else tuple(step[2:])
        if not all(row in self.store[dependency[1]] for row in rows):
            return "wrong"
        if not self.is_breach(dependency, rows):
            return "wrong"
        return getattr(self, kind)(dependency, rows)

    def is_breach(self, dependency, rows):
        kind, table = dependency[:2]
        there = self.store[table]
        if kind == "settles":
            return agree(*rows, dependency[2]) and not agree(*rows, dependency[3])
        if kind == "within":
            _, _, columns, other, others = dependency
            return not any(all(rows[0][c] == b[o] for c, o in zip(columns, others)) for b in self.store[other])
        if kind == "deals":
            return (len(rows) == 2 and agree(*rows, dependency[2])
                    and missing_row(self.scheme, dependency, rows) not in there)
        parts = dependency[2]
        return (len(rows) == len(parts)
                and all(agree(rows[i], rows[j], set(parts[i]) & set(parts[j]))
                        for i in range(len(parts)) for j in range(i))
                and missing_row(self.scheme, dependency, rows) not in there)

    def equal(self, dependency, rows):
        column = [c for c in dependency[3] if rows[0][c] != rows[1][c]][0]
        low, high = sorted(row[column] for row in rows)
        if low >= 0:
            return "clash"
        self.store = [{tuple(high if v == low else v for v in row) for row in there} for there in self.store]
        self.told = {value: high if now == low else now for value, now in self.told.items()}
        self.told[low] = high
        return "done"

    def row(self, dependency, rows):
        self.store[dependency[1]].add(missing_row(self.scheme, dependency, rows))
        return "done"

    def put(self, dependency, rows):
        _, _, columns, other, others = dependency
        row = [None] * self.scheme[other]
        for c, o in zip(columns, others):
            row[o] = rows[0][c]
        for at, value in enumerate(row):
            if value is None:
                row[at] = -1
                while row[at] in self.used:
                    row[at] -= 1
                self.used.add(row[at])
        self.store[other].add(tuple(row))
        return "done"

    def now(self, value):
        return self.told.get(value, value)

    def steps(self):
        """All steps that can be taken, each kind in the order of the book and of the rows."""
        store = tuple(tuple(sorted(rows)) for rows in self.store)
        found = []
        for index, dependency in enumerate(self.book):
            for rows in breaches(self.scheme, store, dependency):
                if dependency[0] == "settles":
                    found.append(("equal", index, *rows))
                elif dependency[0] == "within":
                    found.append(("put", index, *rows))
                else:
                    found.append(("row", index, rows))
        return found

    def result(self):
        return tuple(tuple(sorted(rows)) for rows in self.store)


def plain_start(scheme, dependency):
    """The start of a dependency, by the words of point [18]."""
    kind, table = dependency[:2]
    n = scheme[table]
    if kind == "settles":
        numbers = [list(range(n)), [i if i in dependency[2] else n + i for i in range(n)]]
    elif kind == "within":
        numbers = [list(range(n))]
    else:
        if kind == "joins":
            parts = dependency[2]
        else:
            _, _, left, right = dependency
            parts = (left + right, left + tuple(c for c in range(n) if c not in right))
        numbers = [[i if i in part else n * (j + 1) + i for i in range(n)] for j, part in enumerate(parts)]
    rows = tuple(sorted({tuple(-1 - k for k in row) for row in numbers}))
    return tuple(rows if at == table else () for at in range(len(scheme)))


def plain_met(scheme, dependency, chase):
    """Whether a dependency is met in what a chase has made of its start, by point [19]."""
    kind, table = dependency[:2]
    n = scheme[table]
    if kind == "settles":
        return all(chase.now(-1 - i) == chase.now(-1 - n - i) for i in dependency[3] if i not in dependency[2])
    row = tuple(chase.now(-1 - i) for i in range(n))
    if kind == "within":
        _, _, columns, other, others = dependency
        return any(all(row[c] == b[o] for c, o in zip(columns, others)) for b in chase.store[other])
    return row in chase.store[table]


def plain_follows(scheme, book, dependency):
    """Whether a dependency follows, by point [19] alone."""
    chase = PlainChase(scheme, book, plain_start(scheme, dependency))
    steps = chase.steps()
    while steps:
        chase.step(steps[0])
        steps = chase.steps()
    return plain_met(scheme, dependency, chase)


def plain_judge(scheme, book, dependency, steps):
    chase = PlainChase(scheme, book, plain_start(scheme, dependency))
    return all(chase.step(step) == "done" for step in steps) and plain_met(scheme, dependency, chase)


def plain_judge_clash(scheme, book, store, steps):
    chase = PlainChase(scheme, book, store)
    told = [chase.step(step) for step in steps]
    return bool(told) and told[-1] == "clash" and all(one == "done" for one in told[:-1])


def plain_lean(scheme, book, dependency, steps):
    kept = list(steps)
    for at in range(len(steps) - 1, -1, -1):
        without = kept[:at] + kept[at + 1:]
        if plain_judge(scheme, book, dependency, without):
            kept = without
    return tuple(kept)


def some_set(chance, width, odds=0.4):
    return tuple(c for c in range(width) if chance.random() < odds)


def some_dependency(chance, scheme, order):
    """A dependency by chance; inclusions lead from a table to one that stands further behind in order."""
    place = chance.randrange(len(scheme))
    table = order[place]
    width = scheme[table]
    kind = chance.choice(("settles", "settles", "deals", "joins", "within", "within"))
    if kind == "within" and place + 1 < len(order):
        other = order[chance.randrange(place + 1, len(order))]
        many = chance.randint(1, min(width, scheme[other], 3))
        return (kind, table, tuple(chance.sample(range(width), many)), other,
                tuple(chance.sample(range(scheme[other]), many)))
    if kind == "joins":
        parts = [some_set(chance, width, 0.6) or (0,) for _ in range(chance.randint(1, 3))]
        missing = tuple(c for c in range(width) if not any(c in part for part in parts))
        return kind, table, tuple(parts) + ((missing,) if missing else ())
    if kind == "within":
        kind = "settles"
    return kind, table, some_set(chance, width), some_set(chance, width)


def some_book(chance, scheme, most):
    order = list(range(len(scheme)))
    chance.shuffle(order)
    return tuple(some_dependency(chance, scheme, order) for _ in range(chance.randint(0, most)))


def some_store(chance, scheme, most, low, high):
    return tuple(tuple(sorted({tuple(chance.randint(low, high) for _ in range(width))
                               for _ in range(chance.randint(0, most))})) for width in scheme)
