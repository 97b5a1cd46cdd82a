"""Inferences from clauses without unknowns, and what makes such clauses needless."""

from worldorpaper.clauses import always_true
from worldorpaper.numberclauses import factored_clause, numbered_clause, replaced_clause
from worldorpaper.ranks import RankedClause, Ranks
from worldorpaper.steps import drop_step, replace_step


class Kept:
    """Ranked clauses in the order in which they are kept, filed so that those that count for a clause are found."""

    def __init__(self, ranks):
        self.ranks = ranks
        self.clauses = []
        # The indexes of the clauses by their first literals, or by None for the empty clause, and by their tops.
        self._by_literal = {}
        self._by_top = {}
        self._has_term_tops = False

    def keep(self, ranked):
        """Puts a clause behind the others."""
        index = len(self.clauses)
        self.clauses.append(ranked)
        literal = ranked.clause[0] if len(ranked.clause) > 0 else None
        self._by_literal.setdefault(literal, []).append(index)
        if ranked.top is not None:
            self._by_top.setdefault(ranked.top, []).append(index)
            self._has_term_tops = self._has_term_tops or not self.ranks.sides.is_atom(ranked.top)

    def makes_needless(self, clause):
        """Tells whether a clause is needless beside the clauses."""
        # All literals of a clause can only stand in a clause in which its first one stands.
        indexes = list(self._by_literal.get(None, []))
        for literal in clause:
            indexes.extend(self._by_literal.get(literal, []))
        return needless([self.clauses[index].clause for index in indexes], clause)

    def simpler(self, ranked):
        """The next step that makes a clause less, or None."""
        if len(drop_step(ranked.clause)) < len(ranked.clause):
            return ("drop",)
        sides = []
        for _, left, right in ranked.clause:
            sides.extend([left, right])
        for index in sorted(self._with_top_in(sides)):
            rule = self.clauses[index]
            if rule.is_rule and self.ranks.is_less_clause(rule, ranked):
                return ("replace", index, rule.head[1]) + self._first_place(rule.top, ranked.clause)
        return None

    def simplified(self, clause, step):
        """What a step of `simpler` makes of a clause."""
        if step[0] == "drop":
            return drop_step(clause)
        _, index, side, target, place = step
        return replaced_clause(self.ranks.sides, self.clauses[index].clause, 0, side, clause, target, place)

    def covers(self, clause):
        """Tells whether a clause is needless or gets so by steps that make it less."""
        now = clause
        while not self.makes_needless(now):
            step = self.simpler(RankedClause(self.ranks, now))
            if step is None:
                return False
            now = self.simplified(now, step)
        return True

    def partners(self, ranked):
        """The indexes, ascending, of the clauses with which there can be joins."""
        if ranked.top is None:
            return []
        indexes = self._with_top_in([ranked.top])
        if ranked.is_equating:
            for holder in self.ranks.sides.holders_of(ranked.top):
                indexes.extend(self._by_top.get(holder, []))
        return sorted(set(indexes))

    def _with_top_in(self, numbers):
        """The indexes of the clauses whose tops stand in some sides."""
        # Atoms stand in no other sides.
        parts = self.ranks.sides.parts_of(numbers) if self._has_term_tops else sorted(set(numbers))
        indexes = []
        for part in parts:
            indexes.extend(self._by_top.get(part, []))
        return indexes

    def _first_place(self, part, clause):
        """The index of the first literal with a part, and the first place of the part in it."""
        for target, literal in enumerate(clause):
            for index, side in enumerate(literal[1:]):
                place = self.ranks.sides.first_place(part, side)
                if place is not None:
                    return target, (index,) + place
        return None


def head_of(order, clause):
    """The indexes of the greatest literal and of its greater side, or None."""
    return Ranks(order).ranked_clause(clause).head


def join(order, first, second):
    """The tuple of a join of two clauses, or None."""
    ranks = Ranks(order)
    return joined(ranks, ranks.ranked_clause(first), ranks.ranked_clause(second))


def factors(order, clause):
    """Yields the tuples of the factors of a clause."""
    for row in factor_rows(Ranks(order).ranked_clause(clause)):
        yield row


def needless(clauses, clause):
    """Tells whether a clause is always true or has all literals of one of the clauses."""
    if always_true(clause):
        return True
    for other in clauses:
        if all([literal in clause for literal in other]):
            return True
    return False


def simpler(order, clauses, clause):
    """The next step that makes a clause less, or None."""
    kept = _kept(order, clauses)
    return kept.simpler(kept.ranks.ranked_clause(clause))


def simplify(clauses, clause, step):
    """What a step of `simpler` makes of the clause."""
    if step[0] == "drop":
        return drop_step(clause)
    _, index, side, target, place = step
    return replace_step(clauses[index], 0, side, clause, target, place)


def covered(order, clauses, clause):
    """Tells whether a clause is needless or gets so by steps that make it less."""
    kept = _kept(order, clauses)
    return kept.covers(numbered_clause(kept.ranks.sides, clause))


def is_saturated(order, clauses):
    """Tells whether the clauses cover whatever can be inferred from them."""
    kept = _kept(order, clauses)
    sides = kept.ranks.sides
    for one in kept.clauses:
        results = [drop_step(one.clause)]
        results.extend([factored_clause(sides, one.clause, *row) for row in factor_rows(one)])
        for index in kept.partners(one):
            row = joined(kept.ranks, one, kept.clauses[index])
            if row is not None:
                results.append(join_result(kept.ranks, one, kept.clauses[index], row))
        if not all([kept.covers(result) for result in results]):
            return False
    return True


def joined(ranks, first, second):
    """The tuple of a join of two ranked clauses, or None."""
    if not first.is_equating or second.head is None:
        return None
    if not ranks.is_less_literal(first.descending[0], second.descending[0]):
        return None
    place = ranks.sides.first_place(first.top, second.top)
    if place is None:
        return None
    index, side = first.head
    target, target_side = second.head
    return (index, side, target, (target_side,) + place)


def join_result(ranks, first, second, row):
    """The numbered clause that a join of two ranked clauses makes."""
    index, side, target, place = row
    return replaced_clause(ranks.sides, first.clause, index, side, second.clause, target, place)


def factor_rows(ranked):
    """The list of the tuples of the factors of a ranked clause."""
    if not ranked.is_equating:
        return []
    index, side = ranked.head
    rows = []
    for target, (sign, left, right) in enumerate(ranked.clause):
        if sign and target != index and ranked.top in (left, right):
            rows.append((index, side, target, 0 if ranked.top == left else 1))
    return rows


def _kept(order, clauses):
    kept = Kept(Ranks(order))
    for clause in clauses:
        kept.keep(kept.ranks.ranked_clause(clause))
    return kept
