"""Leaving out clauses that others make needless."""

from worldorpaper.clauses import always_true, clause_unknowns, literal_text
from worldorpaper.matching import subsumes
from worldorpaper.terms import fill_term


def needed_clauses(clauses):
    """The indexes of the clauses that are neither always true nor subsumed by others."""
    indexes = [index for index, clause in enumerate(clauses) if not always_true(clause)]
    sieve = Sieve([clauses[index] for index in indexes])
    first = []
    for place in range(len(indexes)):
        if not any(sieve.reaches(other, place) for other in first):
            first.append(place)
    # What is left is subsumed by nothing before it, so a later clause that subsumes it is not subsumed by it.
    needed = []
    for place in first:
        if not any(sieve.reaches(other, place) for other in first if other > place):
            needed.append(indexes[place])
    return needed


class Sieve:
    """Tells quickly of most pairs of clauses that the one cannot subsume the other."""

    def __init__(self, clauses):
        self._clauses = clauses
        shapes = {}
        for clause in clauses:
            for literal in clause:
                shape = _shape(literal)
                shapes[literal_text(shape)] = shape
        above = {text: _shapes_above(shapes, shapes[text]) for text in shapes}
        self._counts = [_counted(above, clause) for clause in clauses]

    def reaches(self, first, second):
        """Tells whether one clause, named by its index, subsumes another one."""
        # A literal keeps the shapes that it comes under, so the second clause must have as many under each.
        counts = self._counts[second]
        for shape, count in self._counts[first].items():
            if counts.get(shape, 0) < count:
                return False
        return subsumes(self._clauses[first], self._clauses[second]) is not None


def _shape(literal):
    """The literal with the same mark for all its unknowns."""
    sign, left, right = literal
    marks = {name: "" for name in clause_unknowns((literal,))}
    return (sign, fill_term(left, marks), fill_term(right, marks))


def _shapes_above(shapes, shape):
    """The texts of the shapes that some filling may turn into the shape."""
    return [text for text in shapes if _covers(shapes[text], shape)]


def _counted(above, clause):
    """For each shape the number of literals of the clause that come under it."""
    counts = {}
    for literal in clause:
        for shape in above[literal_text(_shape(literal))]:
            counts[shape] = counts.get(shape, 0) + 1
    return counts


def _covers(pattern, shape):
    sign, left, right = pattern
    if sign != shape[0]:
        return False
    return (_is_above(left, shape[1]) and _is_above(right, shape[2])
            or _is_above(left, shape[2]) and _is_above(right, shape[1]))


def _is_above(pattern, side):
    """Tells whether a side has all names of the pattern at the same places."""
    if isinstance(pattern, str):
        return True
    if isinstance(side, str) or pattern[0] != side[0] or len(pattern) != len(side):
        return False
    for inner, argument in zip(pattern[1:], side[1:]):
        if not _is_above(inner, argument):
            return False
    return True
