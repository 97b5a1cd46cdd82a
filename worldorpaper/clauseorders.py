"""Orders of literals and clauses without unknowns."""

from worldorpaper.numberclauses import numbered_literal, plain_clause
from worldorpaper.ranks import Ranks


def compare_literals(order, one, two, /):
    """Returns 1, 0 or -1 if the first literal is greater than, equal to or less than the second one."""
    ranks = Ranks(order)
    mine, yours = numbered_literal(ranks.sides, one), numbered_literal(ranks.sides, two)
    if ranks.is_less_literal(mine, yours):
        return -1
    return 1 if ranks.is_less_literal(yours, mine) else 0


def compare_clauses(order, one, two, /):
    """Returns 1, 0 or -1 if the first clause is greater than, equal to or less than the second one."""
    ranks = Ranks(order)
    mine, yours = ranks.ranked_clause(one), ranks.ranked_clause(two)
    if ranks.is_less_clause(mine, yours):
        return -1
    return 1 if ranks.is_less_clause(yours, mine) else 0


def greater_side(order, literal):
    """The index of the greater side, or None if both are equal."""
    ranks = Ranks(order)
    return ranks.greater_side(numbered_literal(ranks.sides, literal))


def greatest_index(order, clause):
    """The index of the greatest literal, or None if there is none."""
    greatest = descending(order, clause)
    return clause.index(greatest[0]) if len(greatest) > 0 else None


def descending(order, clause):
    """The literals of a clause in descending order."""
    ranks = Ranks(order)
    return list(plain_clause(ranks.sides, ranks.ranked_clause(clause).descending))


def sorted_clauses(order, clauses):
    """Clauses in ascending order, without duplicates."""
    ranks = Ranks(order)
    found = []
    for clause in clauses:
        ranked = ranks.ranked_clause(clause)
        at = ranks.place_of_clause(found, ranked)
        if at == 0 or found[at - 1].clause != ranked.clause:
            found.insert(at, ranked)
    return [plain_clause(ranks.sides, ranked.clause) for ranked in found]
