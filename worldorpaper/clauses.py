"""Literals and clauses."""

from worldorpaper.terms import TOP, fill_term, parts_of, term_text, unknowns_of


def make_literal(sign, left, right):
    """The literal of two sides, which are put in their order."""
    if right == TOP:
        return (sign, left, right)
    if left == TOP or term_text(right) < term_text(left):
        return (sign, right, left)
    return (sign, left, right)


def literal_text(literal):
    """The text of a literal."""
    sign, left, right = literal
    if right == TOP and left != TOP:
        return term_text(left) if sign else "not " + term_text(left)
    mark = " = " if sign else " != "
    return term_text(left) + mark + term_text(right)


def opposite(literal):
    """The literal with the other sign."""
    sign, left, right = literal
    return (not sign, left, right)


def make_clause(literals):
    """The clause of some literals whose sides are in their order."""
    clause = []
    for literal in sorted(literals, key=literal_text):
        if literal not in clause:
            clause.append(literal)
    return tuple(clause)


def fill_clause(clause, filling):
    """The clause with its unknowns filled."""
    return make_clause([_fill_literal(literal, filling) for literal in clause])


def clause_text(clause):
    """The text of a clause."""
    if len(clause) == 0:
        return "false"
    return " or ".join([literal_text(literal) for literal in clause])


def clause_unknowns(clause):
    """The unknowns of a clause in order of first occurrence."""
    found = {}
    for _, left, right in clause:
        for name in unknowns_of(left) + unknowns_of(right):
            found[name] = True
    return list(found)


def parts_in(clauses):
    """The parts of the sides of some clauses, duplicates included."""
    parts = []
    for clause in clauses:
        for _, left, right in clause:
            parts.extend(parts_of(left) + parts_of(right))
    return parts


def is_ground(clause):
    """Tells whether a clause has no unknowns."""
    return len(clause_unknowns(clause)) == 0


def always_true(clause):
    """Tells whether a literal says u = u or two literals differ in their sign alone."""
    for literal in clause:
        sign, left, right = literal
        if sign and left == right:
            return True
        if opposite(literal) in clause:
            return True
    return False


def other_literals(clause, index):
    """The list of the literals of a clause without the one at an index."""
    return [literal for at, literal in enumerate(clause) if at != index]


def _fill_literal(literal, filling):
    sign, left, right = literal
    return make_literal(sign, fill_term(left, filling), fill_term(right, filling))
