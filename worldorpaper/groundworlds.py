"""Worlds whose things are named by the normal forms of terms."""

from worldorpaper.inferring import RankedClause
from worldorpaper.orders import sorted_terms
from worldorpaper.rewriting import Rewriter
from worldorpaper.terms import TOP, is_atom
from worldorpaper.worlds import World, blank_tables, entry_index


def rules_of(order, clauses):
    """The rules that the clauses make, from the least clause on."""
    return _rewriter_from([RankedClause(order, clause) for clause in clauses]).rules


def world_of(signature, order, clauses):
    """The world of the rules, and the list of the terms that name its things."""
    return world_of_ranked(signature, order, [RankedClause(order, clause) for clause in clauses])


def world_of_ranked(signature, order, ranked):
    """The same for clauses with what the order tells of them."""
    rewriter = _rewriter_from(ranked)
    terms = _terms_in([one.clause for one in ranked])
    names = sorted_terms(order, [rewriter.normal(term) for term in terms])
    if len(names) == 0:
        names = [(signature.constants()[0],)]
    return World(signature, len(names), _tables(signature, rewriter, names)), names


def _rewriter_from(ranked):
    # A clause that occurs twice makes no second rule, as the first one makes it true. Clauses are ascending, so the
    # first member of a new rule is not less than any side that was looked at before.
    rewriter = Rewriter()
    for one in sorted(ranked, key=lambda other: other.key):
        rewriter = _extended(rewriter, one)
    return rewriter


def _extended(rewriter, ranked):
    """The rules made so far, with the one that the clause makes if it makes one."""
    if not ranked.is_equating or rewriter.makes_true(ranked.clause):
        return rewriter
    index, side = ranked.head
    if rewriter.normal(ranked.top) != ranked.top:
        return rewriter
    longer = rewriter.with_rule(ranked.top, ranked.clause[index][2 - side])
    rest = [literal for at, literal in enumerate(ranked.clause) if at != index]
    return rewriter if longer.makes_true(rest) else longer


def _terms_in(clauses):
    """The plain terms that stand in the clauses, parts included."""
    found = {}
    for clause in clauses:
        for _, left, right in clause:
            for side in (left, right):
                if is_atom(side) or side == TOP:
                    for argument in side[1:]:
                        _add_parts(argument, found)
                else:
                    _add_parts(side, found)
    return list(found.values())


def _add_parts(term, found):
    # The parts of a term that was found before were found with it. What repr makes can be a key, and quickly.
    text = repr(term)
    if text not in found:
        found[text] = term
        for argument in term[1:]:
            _add_parts(argument, found)


def _tables(signature, rewriter, names):
    tables = blank_tables(signature, len(names))
    things = {repr(name): thing for thing, name in enumerate(names)}
    # Arguments of names and of first members of rules are names themselves, and no other
    # application of a function or relation to names is a name or has another normal form.
    for name in names:
        tables[name[0]][_row_index(things, name)] = things[repr(name)]
    for first, second in rewriter.rules:
        entry = True if second == TOP else things[repr(rewriter.normal(second))]
        tables[first[0]][_row_index(things, first)] = entry
    return tables


def _row_index(things, side):
    """The index of the entry at the things that the arguments name."""
    return entry_index(len(things), [things[repr(argument)] for argument in side[1:]])
