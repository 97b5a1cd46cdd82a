"""Literals and clauses with numbers for sides, and the steps from such clauses to such clauses."""

from worldorpaper.ascending import place_in
from worldorpaper.clauses import other_literals
from worldorpaper.numbering import NUMBER_OF_TOP


def numbered_literal(sides, literal):
    """The literal with numbers for its sides."""
    sign, left, right = literal
    return (sign, sides.number_of(left), sides.number_of(right))


def numbered_clause(sides, clause):
    """The clause with numbers for its sides."""
    return tuple([numbered_literal(sides, literal) for literal in clause])


def plain_clause(sides, clause):
    """The clause with sides for its numbers."""
    return tuple([(sign, sides.listed[left], sides.listed[right]) for sign, left, right in clause])


def ordered_literal(sides, sign, left, right):
    """The literal of two sides, which are put in their order as `make_literal` puts them."""
    if right == NUMBER_OF_TOP:
        return (sign, left, right)
    if left == NUMBER_OF_TOP or sides.is_text_less(right, left):
        return (sign, right, left)
    return (sign, left, right)


def ordered_clause(sides, literals):
    """The clause of some literals, as `make_clause` makes it."""
    clause = []
    for literal in literals:
        if literal not in clause:
            at = place_in(clause, literal, lambda one, other: _is_text_less(sides, one, other))
            clause.insert(at, literal)
    return tuple(clause)


def filled_clause(sides, clause, numbers):
    """A clause with unknowns, given the numbers of the sides that are put for them."""
    literals = []
    for sign, left, right in clause:
        literals.append(ordered_literal(sides, sign, sides.filled(left, numbers), sides.filled(right, numbers)))
    return ordered_clause(sides, literals)


def replaced_clause(sides, first, index, side, second, target, place):
    """What `replace_step` makes of two clauses."""
    new = first[index][2 - side]
    sign, left, right = second[target]
    if place[0] == 0:
        left = sides.replaced(left, place[1:], new)
    else:
        right = sides.replaced(right, place[1:], new)
    rest = other_literals(first, index) + other_literals(second, target)
    return ordered_clause(sides, rest + [ordered_literal(sides, sign, left, right)])


def factored_clause(sides, clause, index, side, target, target_side):
    """What `factor_step` makes of a clause."""
    one = clause[index][2 - side]
    other = clause[target][2 - target_side]
    return ordered_clause(sides, other_literals(clause, index) + [ordered_literal(sides, False, one, other)])


def _is_text_less(sides, one, other):
    """Tells whether the text of the first literal is less."""
    mine, yours = _first_word(sides, one), _first_word(sides, other)
    if mine != yours:
        return mine < yours
    if one[1] != other[1]:
        return sides.is_text_less(one[1], other[1])
    if one[0] != other[0]:
        # `!=` is less than `=`.
        return other[0]
    return sides.is_text_less(one[2], other[2])


def _first_word(sides, literal):
    """The first letters in the text of a literal."""
    sign, left, right = literal
    if left == NUMBER_OF_TOP:
        return "true"
    return "not" if right == NUMBER_OF_TOP and not sign else sides.names[left]
