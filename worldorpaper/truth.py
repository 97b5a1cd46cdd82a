"""Truth of sentences, literals and clauses in worlds."""

from worldorpaper.clauses import clause_unknowns
from worldorpaper.sentences import BINDERS
from worldorpaper.terms import TOP, unknowns_of


def term_value(world, term, values):
    """The thing for which a term stands."""
    if isinstance(term, str):
        return values[term]
    return world.value(term[0], _argument_values(world, term, values))


def sentence_true(world, sentence, values=None):
    """Tells whether a sentence is true at the values of its free unknowns."""
    return _is_true(world, sentence, {} if values is None else values)


def book_true(world, book):
    """Tells whether all sentences of a book are true."""
    return all(sentence_true(world, sentence) for sentence in book.sentences)


def literal_true(world, literal, values):
    """Tells whether a literal is true at the values of its unknowns."""
    sign, left, right = literal
    is_same = _side_value(world, left, values) == _side_value(world, right, values)
    return is_same if sign else not is_same


def clause_true(world, clause):
    """Tells whether a clause is true at all values of its unknowns."""
    return false_values(world, clause) is None


def clauses_true(world, clauses):
    """Tells whether all clauses are true."""
    return all(clause_true(world, clause) for clause in clauses)


def false_values(world, clause):
    """The first tuple of things at which no literal of the clause is true, or None."""
    unknowns = clause_unknowns(clause)
    due = literals_due(clause, unknowns)
    row = []
    while True:
        # A literal that is true for the first things is true whatever the further ones are.
        if some_true(world, due[len(row)], dict(zip(unknowns, row))):
            while len(row) > 0 and row[-1] == world.size - 1:
                row.pop()
            if len(row) == 0:
                return None
            row[-1] += 1
        elif len(row) == len(unknowns):
            return tuple(row)
        else:
            row.append(0)


def _is_true(world, sentence, values):
    word = sentence[0]
    if word == "holds":
        return _side_value(world, sentence[1], values)
    if word == "same":
        return term_value(world, sentence[1], values) == term_value(world, sentence[2], values)
    if word == "not":
        return not _is_true(world, sentence[1], values)
    if word in BINDERS:
        return _is_bound_true(world, sentence, values)
    first = _is_true(world, sentence[1], values)
    if word == "and":
        return first and _is_true(world, sentence[2], values)
    if word == "or":
        return first or _is_true(world, sentence[2], values)
    if word == "implies":
        return not first or _is_true(world, sentence[2], values)
    return first == _is_true(world, sentence[2], values)


def _is_bound_true(world, sentence, values):
    word, name, part = sentence
    deciding = word == "some"
    for thing in world.things:
        if _is_true(world, part, {**values, name: thing}) == deciding:
            return deciding
    return not deciding


def _side_value(world, side, values):
    """The thing of a term, whether an atom holds, or True for TOP."""
    if side == TOP:
        return True
    if not isinstance(side, str) and world.signature.has_relation(side[0]):
        return world.holds(side[0], _argument_values(world, side, values))
    return term_value(world, side, values)


def _argument_values(world, term, values):
    return [term_value(world, argument, values) for argument in term[1:]]


def literals_due(clause, unknowns, known=()):
    """For each number of unknowns from 0 on the literals that need just so many of the first ones beside known ones."""
    places = {name: place for place, name in enumerate(unknowns, start=1) if name not in known}
    due = [[] for _ in range(len(unknowns) + 1)]
    for literal in clause:
        names = unknowns_of(literal[1]) + unknowns_of(literal[2])
        due[max([places.get(name, 0) for name in names], default=0)].append(literal)
    return due


def some_true(world, literals, values):
    """Tells whether some of the literals is true at the values of its unknowns."""
    return any(literal_true(world, literal, values) for literal in literals)
