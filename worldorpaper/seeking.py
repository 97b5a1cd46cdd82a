"""Finding the values at which a clause is false in a world of rules, while that world changes."""

from worldorpaper.ascending import place_in
from worldorpaper.clauses import clause_unknowns
from worldorpaper.terms import TOP, parts_of, unknowns_of
from worldorpaper.truth import literals_due, some_true, term_value


class Seeker:
    """Finds the first row of names, one for each unknown, at which a clause is false in a world, again and again."""

    def __init__(self, world, clause):
        self._unknowns = clause_unknowns(clause)
        # Literals without a common unknown are false or true whatever the others are.
        self._parts = [PartSeeker(world, literals) for literals in _connected(clause)]

    def first_false(self):
        """The first row of names at which the clause is false, or None."""
        names = {}
        for part in self._parts:
            row = part.first_false()
            if row is None:
                return None
            names.update(dict(zip(part.unknowns, row)))
        return tuple([names[unknown] for unknown in self._unknowns])


class PartSeeker:
    """The same for a clause or a part of one.

    A lead is a pair of a row and a key, which has a name or None for each unknown: no row before it that has the names
    of the key is false, or another lead is for that row. So as soon as the least row of all leads is false, it is the
    one that is sought. When the world changes, there are new leads to the rows with the names that the change is about.
    """

    def __init__(self, world, literals):
        self.unknowns = clause_unknowns(literals)
        self._world = world
        self._literals = literals
        self._guards = {unknown: _guards_of(literals, unknown) for unknown in self.unknowns}
        # By name the atoms and terms of this name, with the signs of their literals.
        self._readers = _readers_by_name(literals)
        # By unknowns the literals that are due when other unknowns get names, too.
        self._due = {}
        # In the order of the rows; only those count whose row is the one that their key has here.
        self._leads = []
        self._rows = {}
        # The renewal of the world and the number of changes after it that the leads are for.
        self._renewals = 0
        self._followed = 0

    def first_false(self):
        """The first row of names at which all literals are false, or None."""
        self._follow_changes()
        while len(self._leads) > 0:
            row, key = self._leads[0]
            counts = self._rows.get(key) == row
            if counts and not some_true(self._world, self._literals, dict(zip(self.unknowns, row))):
                return row
            self._leads.pop(0)
            if counts:
                del self._rows[key]
                self._put_lead(self._first_row(key, row), key)
        return None

    def _follow_changes(self):
        changes = self._world.changes
        if self._renewals != self._world.renewals:
            self._renewals = self._world.renewals
            self._followed = len(changes)
            self._leads = []
            self._rows = {}
            self._put_first_lead({})
        for number in changes[self._followed:]:
            for names in self._reading(number):
                self._put_first_lead(names)
        self._followed = len(changes)

    def _reading(self, number):
        """Names of some unknowns; each row that a change has made false agrees with one of these dicts."""
        sides = self._world.sides
        is_atom = sides.is_atom(number)
        found = []
        for side, sign in self._readers.get(sides.names[number], []):
            if not (is_atom and self._world.is_true(number) == sign):
                found.extend(self._matches(side, number, {}))
        if number in self._world.places:
            # A new name can stand for any unknown; but where it makes a guard true, the guard is a change, too.
            found.extend([{unknown: number} for unknown in self.unknowns if len(self._guards[unknown]) == 0])
        return found

    def _matches(self, side, number, names):
        """The names, made longer in all ways in which a side can become the one with the number."""
        found = [names]
        for argument, name in zip(side[1:], self._world.sides.arguments[number]):
            found = [longer for known in found for longer in self._values_at(argument, name, known)]
        return found

    def _values_at(self, term, name, names):
        """The names, made longer in all ways in which a term can have a name as its value."""
        if isinstance(term, str):
            return [{**names, term: name}] if names.get(term, name) == name else []
        if name == self._world.names[0]:
            # This is the value of everything without a name.
            return [names]
        found = []
        for application in self._world.applications(name):
            if self._world.sides.names[application] == term[0]:
                found.extend(self._matches(term, application, names))
        return found

    def _put_first_lead(self, names):
        """Puts in the lead to the first row that agrees with some names."""
        key = tuple([names.get(unknown) for unknown in self.unknowns])
        self._put_lead(tuple([self._world.names[0] if name is None else name for name in key]), key)

    def _put_lead(self, row, key):
        if row is not None and row != self._rows.get(key):
            self._rows[key] = row
            lead = (row, key)
            at = place_in(self._leads, lead, lambda one, other: self._places(one[0]) < self._places(other[0]))
            self._leads.insert(at, lead)

    def _places(self, row):
        return [self._world.places[name] for name in row]

    def _first_row(self, key, start):
        """The first row with the names of a key, not before the start, at which all literals are false, or None."""
        names = {unknown: name for unknown, name in zip(self.unknowns, key) if name is not None}
        due = self._due_beside(names)
        row = []
        # For each name in the row those that are to be tried after it, the next one last.
        left = []
        while True:
            known = dict(zip(self.unknowns, row))
            known = {**names, **known}
            if not some_true(self._world, due[len(row)], known):
                if len(row) == len(self.unknowns):
                    return tuple(row)
                least = start[len(row)] if tuple(row) == start[:len(row)] else self._world.names[0]
                left.append(self._names_for(self.unknowns[len(row)], known, least)[::-1])
                row.append(None)
            while len(left) > 0 and len(left[-1]) == 0:
                left.pop()
                row.pop()
            if len(left) == 0:
                return None
            row[-1] = left[-1].pop()

    def _due_beside(self, names):
        """For each number of unknowns the literals that are known with so many of the first ones, beside other ones."""
        others = tuple(names)
        if others not in self._due:
            self._due[others] = literals_due(self._literals, self.unknowns, others)
        return self._due[others]

    def _names_for(self, unknown, known, least):
        """The names from the least one on, ascending, that an unknown can have where all literals are false."""
        places = self._world.places
        if unknown in known:
            names = [known[unknown]]
        elif len(self._guards[unknown]) == 0:
            return self._world.names[places[least]:]
        else:
            names = self._guarded_names(unknown, known)
        return [name for name in names if places[name] >= places[least]]

    def _guarded_names(self, unknown, known):
        """The names, ascending, that an unknown can have where the guards are true."""
        best = None
        for relation, index, others in self._guards[unknown]:
            atoms = self._world.true_atoms(relation)
            for at, argument, unknowns in others:
                if all([other in known for other in unknowns]):
                    name = term_value(self._world, argument, known)
                    atoms = min(atoms, self._world.true_atoms(relation, at, name), key=len)
            if best is None or len(atoms) < len(best[0]):
                best = (atoms, index)
        atoms, index = best
        places = self._world.places
        found = {self._world.sides.arguments[atom][index]: True for atom in atoms}
        return sorted(found, key=lambda number: places[number])


def _connected(clause):
    """The literals of a clause in lists; literals of different lists have no unknown in common."""
    parts = []
    for literal in clause:
        unknowns = clause_unknowns([literal])
        near = [part for part in parts if any([name in unknowns for name in clause_unknowns(part)])]
        parts = [part for part in parts if part not in near]
        parts.append([literal])
        for part in near:
            parts[-1].extend(part)
    return [[other for other in clause if other in part] for part in parts]


def _guards_of(clause, unknown):
    """The atoms with an unknown as an argument that hold wherever the clause is false.

    For each the relation, the index of this argument, and the other arguments with their indexes and unknowns are told.
    """
    found = []
    for sign, left, right in clause:
        if not sign and right == TOP:
            arguments = [(at, argument, unknowns_of(argument)) for at, argument in enumerate(left[1:])]
            for index, argument, _ in arguments:
                if argument == unknown:
                    found.append((left[0], index, arguments[:index] + arguments[index + 1:]))
    return found


def _readers_by_name(clause):
    found = {}
    for sign, left, right in clause:
        for part in parts_of(left) + parts_of(right):
            if not isinstance(part, str) and part != TOP:
                found.setdefault(part[0], []).append((part, sign))
    return found
