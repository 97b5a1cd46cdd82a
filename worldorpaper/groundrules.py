"""The rules that clauses without unknowns make."""

from worldorpaper.ranks import SortedSides
from worldorpaper.rewriting import Rewriter


class GroundRules:
    """The rules of clauses that come one after the other; few of them are made anew when another clause comes.

    The rule for a side is made by the first clause with this top, its greater side of all, whose other literals are
    false. Apart from the top such a clause has lesser sides only, which the rules for lesser sides have settled.
    """

    def __init__(self, ranks):
        self._ranks = ranks
        self._rewriter = Rewriter(ranks.sides)
        # For each top, in ascending order, the clauses that can make a rule for it.
        self._groups = {}
        # For each atom with normal arguments the tops of the clauses that ask whether it is true.
        self._readers = {}
        # The tops whose rules may have changed.
        self._due = []
        self._tops = SortedSides(ranks)

    def put(self, ranked):
        """Takes in a ranked clause."""
        if not ranked.is_equating:
            return
        group = self._groups.setdefault(ranked.top, [])
        group.insert(self._ranks.place_of_clause(group, ranked), ranked)
        self._due.append(ranked.top)

    def refresh(self):
        """Makes the rules. Returns the sides whose rules may have changed, or None if forms of others may have, too."""
        changed = {}
        while len(self._due) > 0:
            top = self._due.pop()
            second = self._second_for(top)
            if second != self._rewriter.seconds.get(top):
                if self._rewriter.has_met(top):
                    self._make_all()
                    return None
                self._change(top, second)
                changed[top] = True
                self._due.extend(list(self._readers.get(top, {})))
        return list(changed)

    def normal_form(self, number):
        """The normal form of a side."""
        return self._rewriter.normal_form(number)

    def has_rule(self, number):
        """Tells whether there is a rule for a side, as there is for the true ones of atoms with normal arguments."""
        return number in self._rewriter.seconds

    def pairs(self):
        """The rules as pairs, in any order."""
        return list(self._rewriter.seconds.items())

    def ascending_pairs(self):
        """The rules as pairs, in the order in which the clauses make them."""
        self._tops.put(list(self._groups))
        seconds = self._rewriter.seconds
        return [(top, seconds[top]) for top in self._tops.numbers if top in seconds]

    def _make_all(self):
        """Makes all rules anew, from the one for the least top on."""
        self._due = []
        self._rewriter = Rewriter(self._ranks.sides)
        self._tops.put(list(self._groups))
        for top in self._tops.numbers:
            self._change(top, self._second_for(top))

    def _change(self, top, second):
        if second is None:
            self._rewriter.drop(top)
        else:
            self._rewriter.put(top, second)

    def _second_for(self, top):
        """The second member of the rule for a side, or None if no clause makes one."""
        for argument in self._ranks.sides.arguments[top]:
            if self.normal_form(argument) != argument:
                return None
        for ranked in self._groups[top]:
            if not any([self._is_true(literal, ranked) for literal in ranked.beside]):
                return ranked.second
        return None

    def _is_true(self, literal, ranked):
        """Tells whether a literal beside the greatest one is true if the clause makes its rule."""
        sign, left, right = literal
        if self._ranks.sides.is_atom(left):
            atom = self._rewriter.with_normal_arguments(left)
            self._readers.setdefault(atom, {})[ranked.top] = True
            return self.has_rule(atom) == sign
        forms = [self.normal_form(ranked.second if side == ranked.top else side) for side in (left, right)]
        return (forms[0] == forms[1]) == sign
