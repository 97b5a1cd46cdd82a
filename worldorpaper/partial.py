"""Partial worlds, what can be read in them, and instances of clauses."""

from worldorpaper.clauses import clause_unknowns, parts_in
from worldorpaper.errors import BadWorld
from worldorpaper.terms import TOP
from worldorpaper.worlds import thing_rows


class Partial:
    """Some things that are pairwise different, and the cells over them that are decided."""

    def __init__(self, signature, clauses):
        self.signature = signature
        self.size = 1
        standing = _constants_in(clauses)
        first = [name for name in signature.constants() if name in standing][:1]
        self._decided = [((name, ()), 0) for name in first]
        self._entries = dict(self._decided)

    def __iter__(self):
        return iter(self._decided)

    def is_free(self, cell):
        """Tells whether this is a cell over the things that is not decided."""
        name, things = cell
        if not self.signature.has(name) or self.signature.arity(name) != len(things):
            return False
        return all([0 <= thing < self.size for thing in things]) and cell not in self._entries

    def ways(self, cell):
        """The entries that the cell can get."""
        if self.signature.has_relation(cell[0]):
            return [False, True]
        return list(range(self.size + 1))

    def with_cell(self, cell, entry):
        """The partial world in which the cell is decided, too; raises BadWorld if that cannot be."""
        if not self.is_free(cell):
            raise BadWorld("the cell is not free")
        is_truth = self.signature.has_relation(cell[0])
        # In Python True and False count as integers, here they do not.
        if isinstance(entry, bool) != is_truth or entry not in self.ways(cell):
            raise BadWorld("the cell cannot get the entry")
        grown = Partial(self.signature, ())
        grown.size = self.size + 1 if not is_truth and entry == self.size else self.size
        grown._decided = self._decided + [(cell, entry)]
        grown._entries = dict(grown._decided)
        return grown

    def read_term(self, term, values):
        """The value of a term or an atom, or the first cell that blocks it."""
        if isinstance(term, str):
            return ("is", values[term])
        things = []
        for argument in term[1:]:
            word, found = self.read_term(argument, values)
            if word == "blocked":
                return (word, found)
            things.append(found)
        cell = (term[0], tuple(things))
        if cell not in self._entries:
            return ("blocked", cell)
        return ("is", self._entries[cell])

    def read_literal(self, literal, values):
        """Whether a literal is true, or the first cell that blocks it."""
        found = []
        for side in literal[1:]:
            word, value = self._read_side(side, values)
            if word == "blocked":
                return (word, value)
            found.append(value)
        return ("is", (found[0] == found[1]) == literal[0])

    def read_clause(self, clause, values):
        """Whether a clause is true, or the cells that block it."""
        cells = {}
        for literal in clause:
            word, found = self.read_literal(literal, values)
            if word == "blocked":
                cells[found] = True
            elif found:
                return (word, True)
        if len(cells) == 0:
            return ("is", False)
        return ("blocked", tuple(cells))

    def _read_side(self, side, values):
        return ("is", True) if side == TOP else self.read_term(side, values)


def instances(clauses, size):
    """Yields each index of a clause with each tuple of things for its unknowns."""
    for index, clause in enumerate(clauses):
        unknowns = clause_unknowns(clause)
        for things in thing_rows(size, len(unknowns)):
            yield index, things


def _constants_in(clauses):
    """The names without arguments that stand in the clauses, those of constants among them."""
    return [part[0] for part in parts_in(clauses) if not isinstance(part, str) and len(part) == 1]
