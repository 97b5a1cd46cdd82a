"""Worlds of rules, kept up to date while the clauses that make the rules come."""

from worldorpaper.groundrules import GroundRules
from worldorpaper.numbering import NUMBER_OF_TOP
from worldorpaper.ranks import SortedSides
from worldorpaper.worlds import World, blank_tables, entry_index


class RuleWorld:
    """The world of the rules that clauses make; the numbers of the terms that name its things stand for the things."""

    def __init__(self, signature, ranks):
        self.signature = signature
        self.sides = ranks.sides
        # The names in ascending order, and their indexes there.
        self.names = []
        self.places = {}
        # How often all became new, and what changed since then: new names, terms with names as arguments that got a
        # name as their form, and atoms with names as arguments that got true or false.
        self.renewals = 0
        self.changes = []
        self._ranks = ranks
        self._rules = GroundRules(ranks)
        # The sides in the clauses, and the terms among them, of which the first ones have names.
        self._met = {}
        self._terms = []
        self._named = 0
        self._sorted = SortedSides(ranks)
        # The names that terms with names as arguments have as their forms, and for each name these terms.
        self._values = {}
        self._applications = {}
        # True atoms by their relations, and by their relations with the indexes and numbers of single arguments.
        self._true_atoms = {}

    def put(self, ranked):
        """Takes in a ranked clause."""
        self._rules.put(ranked)
        due = []
        for _, left, right in ranked.clause:
            due.extend([left, right])
        while len(due) > 0:
            side = due.pop()
            if side not in self._met:
                self._met[side] = True
                due.extend(self.sides.arguments[side])
                if side != NUMBER_OF_TOP and not self.sides.is_atom(side):
                    self._terms.append(side)

    def refresh(self):
        """Brings the world up to date with the clauses."""
        tops = self._rules.refresh()
        least = self.names[:1]
        if tops is not None and self._named > 0:
            names = self._name_terms()
            for top in tops:
                self._file(top)
            # The least name is the value of all that has no name as its form.
            if self.names[:1] == least:
                self.changes.extend(names + tops)
                return
        self._renew()

    def true_atoms(self, *key):
        """The true atoms of a relation, or those that have a thing at the index of an argument, as keys of a dict."""
        return self._true_atoms.get(key, {})

    def is_true(self, atom):
        """Tells whether an atom whose arguments are names is true."""
        return self._rules.has_rule(atom)

    def value(self, name, arguments):
        """The name of the thing that a function gives for things."""
        # What has no name as its form is the least thing.
        return self._values.get(self.sides.found(name, tuple(arguments)), self.names[0])

    def applications(self, name):
        """The terms with names as arguments that have a name as their form."""
        return self._applications[name]

    def holds(self, name, arguments):
        """Tells whether a relation holds for things."""
        number = self.sides.found(name, tuple(arguments))
        return number is not None and self.is_true(number)

    def as_world(self):
        """The same world as a World."""
        tables = blank_tables(self.signature, len(self.names))
        for name in self.names:
            self._enter(tables, name, self.places[name])
        for first, second in self._rules.pairs():
            holds = second == NUMBER_OF_TOP
            self._enter(tables, first, True if holds else self.places[self._rules.normal_form(second)])
        return World(self.signature, len(self.names), tables)

    def _enter(self, tables, side, entry):
        """Puts in the entry of a side whose arguments are names."""
        things = [self.places[argument] for argument in self.sides.arguments[side]]
        tables[self.sides.names[side]][entry_index(len(self.names), things)] = entry

    def _renew(self):
        """Names all terms and files all true atoms anew."""
        self.renewals += 1
        self.changes = []
        self._named = len(self._terms)
        forms = {self._rules.normal_form(term): True for term in self._terms}
        if len(forms) == 0:
            forms = {self.sides.applied(self.signature.constants()[0], ()): True}
        self._sorted.put(list(forms))
        self.names = [name for name in self._sorted.numbers if name in forms]
        self.places = _places(self.names)
        self._values = {name: name for name in self.names}
        self._applications = {name: [name] for name in self.names}
        self._true_atoms = {}
        for first, _ in self._rules.pairs():
            self._file(first)

    def _name_terms(self):
        """Names the terms that came after the last refresh. Returns the list of the further names."""
        found = []
        for term in self._terms[self._named:]:
            name = self._rules.normal_form(term)
            if name not in self.places:
                found.append(name)
                at = self._ranks.place_of_side(self.names, name)
                self.names.insert(at, name)
                self.places[name] = at
                self._values[name] = name
                self._applications[name] = [name]
                if at < len(self.names) - 1:
                    self.places = _places(self.names)
        self._named = len(self._terms)
        return found

    def _file(self, top):
        """Files what a rule says, or takes it out of the file if there is none any more."""
        if self.sides.is_atom(top):
            self._file_atom(top)
        elif self._rules.has_rule(top):
            form = self._rules.normal_form(top)
            self._values[top] = form
            self._applications[form].append(top)

    def _file_atom(self, atom):
        relation = self.sides.names[atom]
        keys = [(relation,)]
        for index, argument in enumerate(self.sides.arguments[atom]):
            keys.append((relation, index, argument))
        for key in keys:
            atoms = self._true_atoms.setdefault(key, {})
            if self.is_true(atom):
                atoms[atom] = True
            else:
                atoms.pop(atom, None)


def _places(names):
    return {name: place for place, name in enumerate(names)}
