"""Inferences from clauses without unknowns, and what makes such clauses needless."""

from worldorpaper.clauseorders import clause_key, greater_side, greatest_index
from worldorpaper.clauses import always_true
from worldorpaper.steps import drop_step, factor_step, replace_step


class RankedClause:
    """A clause with what an order tells of it."""

    def __init__(self, order, clause):
        self.clause = clause
        self.key = clause_key(order, clause)
        self.head = head_of(order, clause)
        # The greater side of the greatest literal, if this side can be put for other ones.
        self.top = None
        self.is_equating = False
        if self.head is not None:
            index, side = self.head
            self.top = clause[index][1 + side]
            self.is_equating = clause[index][0]
        self.is_rule = self.is_equating and len(clause) == 1


def head_of(order, clause):
    """The indexes of the greatest literal and of its greater side, or None."""
    index = greatest_index(order, clause)
    if index is None:
        return None
    side = greater_side(order, clause[index])
    return None if side is None else (index, side)


def join(order, first, second):
    """The tuple of a join of two clauses, or None."""
    return joined(RankedClause(order, first), RankedClause(order, second))


def factors(order, clause):
    """Yields the tuples of the factors of a clause."""
    for row in factor_rows(RankedClause(order, clause)):
        yield row


def needless(clauses, clause):
    """Tells whether a clause is always true or has all literals of one of the clauses."""
    if always_true(clause):
        return True
    for other in clauses:
        if all([literal in clause for literal in other]):
            return True
    return False


def simpler(order, clauses, clause):
    """The next step that makes a clause less, or None."""
    ranked = [RankedClause(order, other) for other in clauses]
    return simpler_step(ranked, RankedClause(order, clause))


def simplify(clauses, clause, step):
    """What a step of `simpler` makes of the clause."""
    if step[0] == "drop":
        return drop_step(clause)
    _, index, side, target, place = step
    return replace_step(clauses[index], 0, side, clause, target, place)


def covered(order, clauses, clause):
    """Tells whether a clause is needless or gets so by steps that make it less."""
    return _is_covered(order, [RankedClause(order, other) for other in clauses], clause)


def is_saturated(order, clauses):
    """Tells whether the clauses cover whatever can be inferred from them."""
    ranked = [RankedClause(order, clause) for clause in clauses]
    for one in ranked:
        results = [drop_step(one.clause)]
        results.extend([factor_step(one.clause, *row) for row in factor_rows(one)])
        for other in ranked:
            row = joined(one, other)
            if row is not None:
                results.append(join_result(one, other, row))
        if not all([_is_covered(order, ranked, result) for result in results]):
            return False
    return True


def joined(first, second):
    """The tuple of a join of two ranked clauses, or None."""
    if not first.is_equating or second.head is None or not first.key[0] < second.key[0]:
        return None
    place = _first_place(first.top, second.top)
    if place is None:
        return None
    index, side = first.head
    target, target_side = second.head
    return (index, side, target, (target_side,) + place)


def join_result(first, second, row):
    """The clause that a join of two ranked clauses makes."""
    index, side, target, place = row
    return replace_step(first.clause, index, side, second.clause, target, place)


def factor_rows(ranked):
    """The list of the tuples of the factors of a ranked clause."""
    if not ranked.is_equating:
        return []
    index, side = ranked.head
    rows = []
    for target, (sign, left, right) in enumerate(ranked.clause):
        if sign and target != index and ranked.top in (left, right):
            rows.append((index, side, target, 0 if ranked.top == left else 1))
    return rows


def simpler_step(rules, ranked):
    """The next step that makes a ranked clause less by ranked clauses, or None."""
    clause = ranked.clause
    if len(drop_step(clause)) < len(clause):
        return ("drop",)
    for index, rule in enumerate(rules):
        if rule.is_rule and rule.key < ranked.key:
            for target, literal in enumerate(clause):
                place = _first_place(rule.top, literal)
                if place is not None:
                    return ("replace", index, rule.head[1], target, place)
    return None


def _is_covered(order, ranked, clause):
    clauses = [other.clause for other in ranked]
    now = clause
    while not needless(clauses, now):
        step = simpler_step(ranked, RankedClause(order, now))
        if step is None:
            return False
        now = simplify(clauses, now, step)
    return True


def _first_place(part, whole):
    """The first place in preorder of a part in a side or a literal, or None."""
    # A literal has its sides where an application has its arguments, so places mean the same.
    if part == whole:
        return ()
    for index, argument in enumerate(whole[1:]):
        place = _first_place(part, argument)
        if place is not None:
            return (index,) + place
    return None
