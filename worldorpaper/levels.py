"""Fillings of clauses by terms that are nested deeper and deeper."""

from worldorpaper.clauses import clause_unknowns
from worldorpaper.worlds import row_at, table_length


class FurtherRows:
    """The rows of so many indexes below a count, ascending, but for those with all indexes below a lesser count."""

    def __init__(self, length, count, lesser):
        self._length = length
        self._count = count
        self._lesser = lesser
        self._number = 0

    def following(self):
        """The next row, or None."""
        while self._number < table_length(self._count, self._length):
            row = row_at(self._count, self._length, self._number)
            if max(row, default=-1) >= self._lesser:
                self._number += 1
                return row
            # Up to the one with the lesser count as its last index, the next rows are left out as this one is.
            self._number += self._lesser - row[-1] if self._length > 0 else 1
        return None


class ClosedTerms:
    """The terms without unknowns up to a depth, as numbers; they are made when they are asked for."""

    def __init__(self, signature, sides):
        self.count = len(signature.constants())
        # How many of them the depth before has. The first depth has the row of no terms as a further one.
        self.lesser = -1
        self._sides = sides
        self._functions = [(name, arity) for name, arity in signature.functions if arity > 0]
        self._made = [sides.applied(name, ()) for name in signature.constants()]
        # Pairs of a function and the rows of indexes of terms to which it is still to be applied at this depth.
        self._due = []

    def deepen(self):
        """Lets terms be nested one deeper."""
        self._make(self.count)
        self._due = [(name, FurtherRows(arity, self.count, self.lesser)) for name, arity in self._functions]
        inner, inner_lesser = self.count, max(0, self.lesser)
        for _, arity in self._functions:
            self.count += table_length(inner, arity) - table_length(inner_lesser, arity)
        self.lesser = inner

    def at(self, index):
        """The term with an index."""
        self._make(index + 1)
        return self._made[index]

    def _make(self, count):
        """Makes so many terms, as far as they are not made."""
        while len(self._made) < count:
            name, rows = self._due[0]
            row = rows.following()
            if row is None:
                self._due.pop(0)
            else:
                self._made.append(self._sides.applied(name, tuple([self._made[index] for index in row])))


class Levels:
    """Goes through the fillings of clauses level by level, without those that a level before has."""

    def __init__(self, signature, sides, clauses):
        self._terms = ClosedTerms(signature, sides)
        self._lengths = [len(clause_unknowns(clause)) for clause in clauses]
        self._is_endless = max(self._lengths, default=0) > 0 and any([arity > 0 for _, arity in signature.functions])
        self._due = self._level()

    def following(self):
        """The index of a clause and the numbers of the terms for its unknowns, or None if there is no other level."""
        while len(self._due) > 0 or self._is_endless:
            if len(self._due) == 0:
                self._terms.deepen()
                self._due = self._level()
            index, rows = self._due[0]
            row = rows.following()
            if row is not None:
                return index, [self._terms.at(place) for place in row]
            self._due.pop(0)
        return None

    def _level(self):
        """Pairs of the index of a clause and the rows of the indexes of terms that are put for its unknowns."""
        count, lesser = self._terms.count, self._terms.lesser
        return [(index, FurtherRows(length, count, lesser)) for index, length in enumerate(self._lengths)]
