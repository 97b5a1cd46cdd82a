"""Orders of literals and clauses without unknowns."""


def compare_literals(order, one, two, /):
    """Returns 1, 0 or -1 if the first literal is greater than, equal to or less than the second one."""
    return _compared(literal_key(order, one), literal_key(order, two))


def compare_clauses(order, one, two, /):
    """Returns 1, 0 or -1 if the first clause is greater than, equal to or less than the second one."""
    return _compared(clause_key(order, one), clause_key(order, two))


def greater_side(order, literal):
    """The index of the greater side, or None if both are equal."""
    _, left, right = literal
    if left == right:
        return None
    return 0 if order.ground_key(left) > order.ground_key(right) else 1


def greatest_index(order, clause):
    """The index of the greatest literal, or None if there is none."""
    greatest = descending(order, clause)
    return clause.index(greatest[0]) if len(greatest) > 0 else None


def descending(order, clause):
    """The literals of a clause in descending order."""
    return sorted(clause, key=lambda literal: literal_key(order, literal), reverse=True)


def sorted_clauses(order, clauses):
    """Clauses in ascending order, without duplicates."""
    found = []
    for clause in sorted(clauses, key=lambda one: clause_key(order, one)):
        if len(found) == 0 or found[-1] != clause:
            found.append(clause)
    return found


def literal_key(order, literal):
    """The bag of a literal; literals compare as their keys do."""
    sign, left, right = literal
    less, greater = sorted([order.ground_key(left), order.ground_key(right)])
    return (greater, less) if sign else (greater, greater, less, less)


def clause_key(order, clause):
    """The keys of the literals in descending order; clauses compare as their keys do."""
    return tuple(sorted([literal_key(order, literal) for literal in clause], reverse=True))


def _compared(one, two):
    if one == two:
        return 0
    return 1 if one > two else -1
