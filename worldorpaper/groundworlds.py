"""Worlds whose things are named by the normal forms of terms."""

from worldorpaper.groundrules import GroundRules
from worldorpaper.ranks import Ranks
from worldorpaper.ruleworlds import RuleWorld


def rules_of(order, clauses):
    """The rules that the clauses make, from the least clause on."""
    ranks = Ranks(order)
    rules = GroundRules(ranks)
    for clause in clauses:
        rules.put(ranks.ranked_clause(clause))
    rules.refresh()
    sides = ranks.sides.listed
    return [(sides[first], sides[second]) for first, second in rules.ascending_pairs()]


def world_of(signature, order, clauses):
    """The world of the rules, and the list of the terms that name its things."""
    ranks = Ranks(order)
    world = RuleWorld(signature, ranks)
    for clause in clauses:
        world.put(ranks.ranked_clause(clause))
    world.refresh()
    return world.as_world(), [ranks.sides.listed[name] for name in world.names]
