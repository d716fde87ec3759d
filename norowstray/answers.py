"""Answers to questions in a store, and those that are sure in all stores that complete it.

A relation is a pair of a scope, a tuple of variables, and a list of unlike tuples of their values.
"""

from norowstray.completing import chase, is_known
from norowstray.shapes import lies_within, values_at


def answers(scheme, store, question):
    """Return the answers in a store, in ascending order without duplicates."""
    head, atoms = question
    relations = [relation_of(store[table], terms) for table, terms in atoms]
    scope, found = joined_back(head, relations)
    places = [scope.index(variable) for variable in head]
    return tuple(sorted([values_at(values, places) for values in found]))


def sure_answers(scheme, book, store, question):
    """Return the sure answers, or None if there is a clash."""
    completed = chase(scheme, book, store)
    if completed is None:
        return None
    return tuple([answer for answer in answers(scheme, completed, question) if is_known(answer)])


def relation_of(rows, terms):
    """Return the relation of an atom: its variables, and their values in the rows that it may become."""
    scope = tuple(sorted({term for term in terms if term < 0}))
    places = [terms.index(variable) for variable in scope]
    return scope, [values_at(row, places) for row in rows if fits(terms, row)]


def fits(terms, row):
    """Return True if the terms become the row under some function on the variables."""
    for term, value in zip(terms, row):
        meant = term if term >= 0 else row[terms.index(term)]
        if value != meant:
            return False
    return True


def joined_back(head, relations):
    """Return the join of the relations as far as the variables of the head go."""
    # One variable after the other is taken out of the relations, those of the head last. What is
    # left has no variables, and has rows if all fits together. Then all that was joined for a
    # variable of the head fits as well, so the way back makes no rows in vain.
    order = leaving_order(head, [scope for scope, _ in relations])
    passed = []
    for variable, near in order:
        together = joined_all([one for one in relations if lies_within(one[0], near)])
        others = [one for one in relations if not lies_within(one[0], near)]
        relations = others + [without(together, variable)]
        if variable in head:
            passed.append(together)
    back = joined_all(relations)
    for relation in passed[::-1]:
        back = joined(back, relation)
    return back


def leaving_order(head, scopes):
    """Return pairs of a variable and of all that are in one relation with it when it is its turn.

    Those of the head come last, and of the others always one with the fewest such variables next.
    """
    last = {variable: True for variable in head}
    beside = {}
    for scope in scopes:
        for variable in scope:
            beside.setdefault(variable, {}).update({other: True for other in scope})
    order = []
    while beside:
        waiting = [variable for variable in beside if variable not in last] or list(beside)
        variable = min(waiting, key=lambda one: len(beside[one]))
        near = beside[variable]
        del beside[variable]
        for other in near:
            if other != variable:
                others = beside[other]
                others.update(near)
                del others[variable]
        order.append((variable, near))
    return order


def joined_all(relations):
    """Return the join of the relations."""
    made = ((), [()])
    waiting = list(relations)
    while waiting:
        costs = [(len([one for one in scope if one not in made[0]]), len(rows)) for scope, rows in waiting]
        made = joined(made, waiting.pop(costs.index(min(costs))))
    return made


def joined(one, other):
    """Return the join of two relations."""
    scope, rows = one
    other_scope, other_rows = other
    shared = [place for place, variable in enumerate(other_scope) if variable in scope]
    fresh = [place for place, variable in enumerate(other_scope) if variable not in scope]
    fitting = {}
    for row in other_rows:
        fitting.setdefault(values_at(row, shared), []).append(values_at(row, fresh))
    places = [scope.index(other_scope[place]) for place in shared]
    made = [row + more for row in rows for more in fitting.get(values_at(row, places), [])]
    return scope + values_at(other_scope, fresh), made


def without(relation, variable):
    """Return the relation without one of its variables."""
    scope, rows = relation
    places = [place for place, one in enumerate(scope) if one != variable]
    return values_at(scope, places), list({values_at(row, places): True for row in rows})
