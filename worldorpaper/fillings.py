"""The road of fillings, which decides clauses by their instances without unknowns."""

from worldorpaper.clauses import clause_unknowns
from worldorpaper.hearts import Heart, refutation
from worldorpaper.levels import ClosedTerms, Levels
from worldorpaper.lines import renumbered
from worldorpaper.names import fresh_name
from worldorpaper.numberclauses import filled_clause
from worldorpaper.numbering import Sides
from worldorpaper.orders import plain_order
from worldorpaper.ruleworlds import RuleWorld
from worldorpaper.seeking import Seeker


class Fillings:
    """Puts filled clauses into a heart until it refutes or a world makes all clauses true."""

    def __init__(self, signature, clauses, picks=()):
        self.signature = named_signature(signature)
        self.heart = Heart(self.signature, plain_order(self.signature), picks)
        self.put_in = []
        self.world = None
        self._clauses = tuple(clauses)
        self._unknowns = [clause_unknowns(clause) for clause in self._clauses]
        self._sides = self.heart.ranks.sides
        self._levels = Levels(self.signature, self._sides, self._clauses)
        # The indexes of clauses with the numbered filled clauses that were put in for them.
        self._in = {}
        # The world of the clauses that the heart has kept, or of the first ones of them.
        self._present = RuleWorld(self.signature, self.heart.ranks)
        self._looked_at = 0
        self._seekers = [Seeker(self._present, clause) for clause in self._clauses]

    def has_ended(self):
        """Tells whether there is a world or the heart has refuted."""
        return self.world is not None or self.heart.refuted is not None

    def step(self):
        """Lets the heart take a step, or looks at its world and puts a filling in."""
        if self.has_ended():
            return
        if not self.heart.has_ended():
            self.heart.step()
            return
        self._bring_up_to_date()
        for index, seeker in enumerate(self._seekers):
            names = seeker.first_false()
            if names is not None:
                self._put(self._next_filling((index, names)))
                return
        self.world = self._present.as_world()

    def paper(self):
        """The refutation of the heart as a paper over the clauses."""
        rows = []
        places = {}
        for place, (clause, reason) in enumerate(refutation(self.heart)):
            if reason[0] == "given":
                index, pairs = self.put_in[reason[1]]
                rows.append((self._clauses[index], ("given", index)))
                rows.append((clause, ("fill", len(rows) - 1, pairs)))
            else:
                rows.append((clause, renumbered(reason, places)))
            places[place] = len(rows) - 1
        return rows

    def _bring_up_to_date(self):
        """Lets the world know what the heart has kept."""
        kept = self.heart.ranked_kept.clauses
        for ranked in kept[self._looked_at:]:
            self._present.put(ranked)
        self._looked_at = len(kept)
        self._present.refresh()

    def _next_filling(self, at_false_values):
        """The pair of an index and names for the filling that is put in, given the one at the false values."""
        # Every third filling comes from the levels, so that none of theirs is put off for ever.
        if len(self.put_in) % 3 != 2:
            return at_false_values
        found = self._levels.following()
        while found is not None:
            if (found[0], self._filled(found)) not in self._in:
                return found
            found = self._levels.following()
        return at_false_values

    def _put(self, filling):
        index, names = filling
        terms = [self._sides.listed[name] for name in names]
        self.put_in.append((index, tuple(zip(self._unknowns[index], terms))))
        filled = self._filled(filling)
        self._in[(index, filled)] = True
        self.heart.add_numbered(filled)

    def _filled(self, filling):
        index, names = filling
        return filled_clause(self._sides, self._clauses[index], dict(zip(self._unknowns[index], names)))


def named_signature(signature):
    """The signature, with a new constant if it has none."""
    if len(signature.constants()) > 0:
        return signature
    return signature.extended([(fresh_name("c", signature.names()), 0)])


def closed_terms(signature, depth):
    """The terms without unknowns that are nested at most so deep."""
    sides = Sides()
    terms = ClosedTerms(signature, sides)
    for _ in range(depth):
        terms.deepen()
    return [sides.listed[terms.at(index)] for index in range(terms.count)]
