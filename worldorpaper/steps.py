"""Steps that make clauses from clauses."""

from worldorpaper.clauses import fill_clause, make_clause, make_literal, opposite, other_literals
from worldorpaper.errors import BadPlace, BadStep
from worldorpaper.terms import TOP, is_atom, is_plain, part_at, replace_at


def fill_step(clause, pairs):
    """The clause filled by pairs of an unknown and a plain term."""
    filling = {}
    for name, term in pairs:
        if not isinstance(name, str) or name in filling:
            raise BadStep("an unknown is no string or is listed twice")
        if not is_plain(term):
            raise BadStep("a term is not plain")
        filling[name] = term
    return fill_clause(clause, filling)


def replace_step(first, index, side, second, target, place):
    """Both clauses with one side of an equation of the first put for the other one in the second."""
    old, new = _sides_from(_positive_at(first, index), side)
    literal = _literal_at(second, target)
    if _part_of_literal(literal, place) != old:
        raise BadStep("the side does not stand at the place")
    sign, left, right = replace_at(literal, place, new)
    rest = other_literals(first, index) + other_literals(second, target)
    return make_clause(rest + [make_literal(sign, left, right)])


def drop_step(clause):
    """The clause without the literals of the form u != u."""
    return tuple([literal for literal in clause if literal[0] or literal[1] != literal[2]])


def factor_step(clause, index, side, target, target_side):
    """The clause without one of two literals that share a side, and with the denial that they share both."""
    if index == target:
        raise BadStep("the literals are the same")
    shared, one = _sides_from(_positive_at(clause, index), side)
    target_shared, other = _sides_from(_positive_at(clause, target), target_side)
    if shared != target_shared:
        raise BadStep("the sides are not equal")
    return make_clause(other_literals(clause, index) + [make_literal(False, one, other)])


def either_step(literal):
    """The clause of a literal and its opposite."""
    sign, left, right = literal
    if not _are_sides(left, right):
        raise BadStep("the sides are not those of a literal")
    ordered = make_literal(sign, left, right)
    return make_clause([ordered, opposite(ordered)])


def _literal_at(clause, index):
    if not 0 <= index < len(clause):
        raise BadStep("there is no literal with the index")
    return clause[index]


def _positive_at(clause, index):
    literal = _literal_at(clause, index)
    if not literal[0]:
        raise BadStep("the literal has the sign False")
    return literal


def _sides_from(literal, side):
    """The named side of a literal, and then the other one."""
    if side not in (0, 1):
        raise BadStep("there is no such side")
    named, other = literal[1 + side], literal[2 - side]
    if named == TOP:
        raise BadStep("the side is TOP")
    return named, other


def _part_of_literal(literal, place):
    # A literal has its sides where an application has its arguments, so places mean the same.
    # At the place () stands the literal itself, which is no side.
    try:
        return part_at(literal, place)
    except BadPlace:
        raise BadStep("the place does not lie in the literal") from None


def _are_sides(left, right):
    if left == TOP:
        return is_atom(right)
    if right == TOP:
        return is_atom(left)
    return is_plain(left) and is_plain(right)
