"""The road of fillings, which decides clauses by their instances without unknowns."""

from worldorpaper.clauses import clause_unknowns
from worldorpaper.groundworlds import world_of_ranked
from worldorpaper.hearts import Heart, refutation
from worldorpaper.lines import renumbered
from worldorpaper.names import fresh_name
from worldorpaper.orders import plain_order
from worldorpaper.steps import fill_step
from worldorpaper.truth import false_values
from worldorpaper.worlds import row_at, table_length, thing_rows


class Levels:
    """Goes through the fillings of clauses by terms that are nested deeper and deeper."""

    def __init__(self, signature, clauses):
        self._signature = signature
        self._unknowns = [clause_unknowns(clause) for clause in clauses]
        self._terms = closed_terms(signature, 0)
        self._index = 0
        self._number = 0

    def following(self):
        """The index of a clause and the terms for its unknowns, or None if no level has others than those before."""
        while True:
            while self._index < len(self._unknowns):
                length = len(self._unknowns[self._index])
                if self._number < table_length(len(self._terms), length):
                    row = row_at(len(self._terms), length, self._number)
                    self._number += 1
                    return self._index, [self._terms[place] for place in row]
                self._index += 1
                self._number = 0
            if not self._goes_deeper():
                return None
            self._terms = _deeper_terms(self._signature, self._terms)
            self._index = 0

    def _goes_deeper(self):
        grows = any([arity > 0 for _, arity in self._signature.functions])
        return grows and any([len(names) > 0 for names in self._unknowns])


class Fillings:
    """Puts filled clauses into a heart until it refutes or a world makes all clauses true."""

    def __init__(self, signature, clauses, picks=()):
        self.signature = named_signature(signature)
        self.heart = Heart(self.signature, plain_order(self.signature), picks)
        self.put_in = []
        self.world = None
        self._clauses = tuple(clauses)
        self._levels = Levels(self.signature, self._clauses)
        # The indexes of clauses with the texts of the filled clauses that were put in for them.
        self._in = {}

    def has_ended(self):
        """Tells whether there is a world or the heart has refuted."""
        return self.world is not None or self.heart.refuted is not None

    def step(self):
        """Lets the heart take a step, or looks at its world and puts a filling in."""
        if self.has_ended():
            return
        if not self.heart.has_ended():
            self.heart.step()
            return
        world, names = world_of_ranked(self.signature, self.heart.order, self.heart.ranked_kept)
        for index, clause in enumerate(self._clauses):
            things = false_values(world, clause)
            if things is not None:
                self._put(self._next_filling(index, [names[thing] for thing in things]))
                return
        self.world = world

    def paper(self):
        """The refutation of the heart as a paper over the clauses."""
        rows = []
        places = {}
        for place, (clause, reason) in enumerate(refutation(self.heart)):
            if reason[0] == "given":
                index, pairs = self.put_in[reason[1]]
                rows.append((self._clauses[index], ("given", index)))
                rows.append((clause, ("fill", len(rows) - 1, pairs)))
            else:
                rows.append((clause, renumbered(reason, places)))
            places[place] = len(rows) - 1
        return rows

    def _next_filling(self, index, terms):
        """The pair of an index and pairs for the filling that is put in, given the one at the false values."""
        at_false_values = self._paired(index, terms)
        # Every third filling comes from the levels, so that none of theirs is put off for ever.
        if len(self.put_in) % 3 != 2:
            return at_false_values
        found = self._levels.following()
        while found is not None:
            filling = self._paired(found[0], found[1])
            if self._key(filling) not in self._in:
                return filling
            found = self._levels.following()
        return at_false_values

    def _paired(self, index, terms):
        return index, tuple(zip(clause_unknowns(self._clauses[index]), terms))

    def _put(self, filling):
        self._in[self._key(filling)] = True
        self.put_in.append(filling)
        self.heart.add(self._filled(filling))

    def _key(self, filling):
        return filling[0], repr(self._filled(filling))

    def _filled(self, filling):
        index, pairs = filling
        return fill_step(self._clauses[index], pairs)


def named_signature(signature):
    """The signature, with a new constant if it has none."""
    if len(signature.constants()) > 0:
        return signature
    return signature.extended([(fresh_name("c", signature.names()), 0)])


def closed_terms(signature, depth):
    """The terms without unknowns that are nested at most so deep."""
    terms = [(name,) for name in signature.constants()]
    for _ in range(depth):
        terms = _deeper_terms(signature, terms)
    return terms


def _deeper_terms(signature, terms):
    """The terms, and behind them the further ones that are nested one deeper."""
    listed = {repr(term): True for term in terms}
    deeper = []
    for name, arity in signature.functions:
        for row in thing_rows(len(terms), arity):
            term = (name,) + tuple([terms[place] for place in row])
            if repr(term) not in listed:
                deeper.append(term)
    return terms + deeper
