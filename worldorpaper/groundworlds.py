"""Worlds whose things are named by the normal forms of terms."""

from worldorpaper.clauseorders import sorted_clauses
from worldorpaper.clauses import parts_in
from worldorpaper.inferring import head_of
from worldorpaper.orders import sorted_terms
from worldorpaper.rewriting import normal, true_by
from worldorpaper.terms import TOP, is_plain, term_text
from worldorpaper.worlds import World, blank_tables, entry_index


def rules_of(order, clauses):
    """The rules that the clauses make, from the least clause on."""
    rules = []
    for clause in sorted_clauses(order, clauses):
        rule = _rule_of(order, rules, clause)
        if rule is not None:
            rules.append(rule)
    return rules


def world_of(signature, order, clauses):
    """The world of the rules, and the list of the terms that name its things."""
    rules = rules_of(order, clauses)
    names = sorted_terms(order, [normal(rules, term) for term in _terms_in(clauses)])
    if len(names) == 0:
        names = [(signature.constants()[0],)]
    return World(signature, len(names), _tables(signature, rules, names)), names


def _rule_of(order, rules, clause):
    """The rule that the clause makes beside the rules made so far, or None."""
    head = head_of(order, clause)
    if head is None or true_by(rules, clause):
        return None
    index, side = head
    literal = clause[index]
    greater, other = literal[1 + side], literal[2 - side]
    if not literal[0] or normal(rules, greater) != greater:
        return None
    rest = [one for at, one in enumerate(clause) if at != index]
    if true_by(rules + [(greater, other)], rest):
        return None
    return (greater, other)


def _terms_in(clauses):
    """The plain terms that stand in the clauses, parts included."""
    found = {term_text(part): part for part in parts_in(clauses) if is_plain(part)}
    return list(found.values())


def _tables(signature, rules, names):
    tables = blank_tables(signature, len(names))
    things = {term_text(name): thing for thing, name in enumerate(names)}
    # Arguments of names and of first members of rules are names themselves, and no other
    # application of a function or relation to names is a name or has another normal form.
    for name in names:
        tables[name[0]][_row_index(things, name)] = things[term_text(name)]
    for first, second in rules:
        entry = True if second == TOP else things[term_text(normal(rules, second))]
        tables[first[0]][_row_index(things, first)] = entry
    return tables


def _row_index(things, side):
    """The index of the entry at the things that the arguments name."""
    return entry_index(len(things), [things[term_text(argument)] for argument in side[1:]])
