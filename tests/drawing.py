"""Drawn things for the tests; a fixed seed draws the same ones in every run."""

import types
import unittest

from worldorpaper.books import Signature
from worldorpaper.clauses import make_clause, make_literal
from worldorpaper.orders import Order
from worldorpaper.terms import TOP
from worldorpaper.worlds import World

SIGNATURE = Signature(
    [("a", 0), ("b", 0), ("f", 1), ("g", 2), ("h", 3)],
    [("Q", 0), ("P", 1), ("R", 2), ("S", 3)],
)
GROUND = Signature([("a", 0), ("b", 0), ("c", 0), ("f", 1), ("g", 2)], [("Q", 0), ("P", 1), ("R", 2)])
UNKNOWNS = ("x", "y", "z")
PAIRS = ("and", "or", "implies", "iff")


def yes(left, right=TOP):
    return make_literal(True, left, right)


def no(left, right=TOP):
    return make_literal(False, left, right)


def clause(*literals):
    """The clause of literals whose sides may stand in any order."""
    return make_clause([make_literal(*literal) for literal in literals])


def draw_term(rng, depth, unknowns=UNKNOWNS, signature=SIGNATURE):
    constants = [(name,) for name, arity in signature.functions if arity == 0]
    deeper = [(name, arity) for name, arity in signature.functions if arity > 0]
    if depth == 0 or not deeper or rng.random() < 0.25:
        return rng.choice(list(unknowns) + constants)
    name, arity = rng.choice(deeper)
    return (name,) + tuple(draw_term(rng, depth - 1, unknowns, signature) for _ in range(arity))


def draw_atom(rng, depth, unknowns=UNKNOWNS, signature=SIGNATURE):
    name, arity = rng.choice(signature.relations)
    return (name,) + tuple(draw_term(rng, depth, unknowns, signature) for _ in range(arity))


def draw_literal(rng, depth, unknowns=UNKNOWNS, signature=SIGNATURE):
    sign = rng.random() < 0.6
    if rng.random() < 0.4:
        return make_literal(sign, draw_atom(rng, depth, unknowns, signature), TOP)
    return make_literal(sign, *[draw_term(rng, depth, unknowns, signature) for _ in range(2)])


def draw_clause(rng, most, depth, unknowns=UNKNOWNS, signature=SIGNATURE):
    return make_clause([draw_literal(rng, depth, unknowns, signature) for _ in range(rng.randint(0, most))])


def draw_clauses(rng, most, signature):
    """Some short clauses of few unknowns, so that a tree for them is not too large."""
    clauses = []
    for _ in range(rng.randint(0, most)):
        clauses.append(draw_clause(rng, 2, 1, ("x", "y"), signature) or draw_clause(rng, 2, 1, ("x",), signature))
    return clauses


def dense_clause(rng, most):
    """A clause of so few sides that many of them are equal."""
    literals = []
    for _ in range(rng.randint(1, most)):
        sides = [rng.choice([("a",), "x", "y", ("f", ("a",)), ("f", ("b",))])]
        sides.append(rng.choice([("a",), ("b",), "x", ("f", ("a",))]))
        if rng.random() < 0.25:
            sides = [("P", sides[0]), TOP]
        literals.append(make_literal(rng.random() < 0.7, *sides))
    return make_clause(literals)


def ground_clauses(rng, count, most, constants="abc"):
    """Clauses without unknowns, of so few sides that much can be inferred from them."""
    terms = [(name,) for name in constants]
    terms += [("f", term) for term in terms] + [("f", ("f", terms[0])), ("g", terms[0], terms[1])]
    atoms = [("Q",)] + [("P", term) for term in terms[:4]] + [("R", terms[0], terms[1]), ("R", terms[1], terms[0])]
    return clauses_over(rng, count, most, terms, atoms)


def close_clauses(rng, count, most):
    """Clauses without unknowns, of still fewer sides, so that they are often at odds."""
    terms = [("a",), ("b",), ("c",), ("f", ("a",))]
    return clauses_over(rng, count, most, terms, [("P", terms[0]), ("P", terms[3])])


def clauses_over(rng, count, most, terms, atoms):
    clauses = []
    for _ in range(count):
        literals = []
        for _ in range(rng.randint(1, most)):
            sides = (rng.choice(atoms), TOP) if rng.random() < 0.35 else (rng.choice(terms), rng.choice(terms))
            literals.append(make_literal(rng.random() < 0.6, *sides))
        clauses.append(make_clause(literals))
    return clauses


def draw_order(rng, signature):
    names = [name for name, _ in signature.functions + signature.relations]
    heaviest = rng.choice((1, 3, 9))
    return Order(signature, {name: rng.randint(1, heaviest) for name in names}, rng.sample(names, len(names)))


def draw_sentence(rng, depth, unknowns=UNKNOWNS, names=UNKNOWNS):
    """A sentence whose free unknowns are among the unknowns and whose binders bind the names."""
    kind = rng.choice(("holds", "same", "not", "pair", "pair", "bind", "bind"))
    if kind == "holds" or (depth == 0 and rng.random() < 0.6):
        return ("holds", draw_atom(rng, 2, unknowns))
    if kind == "same" or depth == 0:
        return ("same", draw_term(rng, 2, unknowns), draw_term(rng, 2, unknowns))
    if kind == "not":
        return ("not", draw_sentence(rng, depth - 1, unknowns, names))
    if kind == "bind":
        name = rng.choice(names)
        inner = tuple(unknowns) + ((name,) if name not in unknowns else ())
        return (rng.choice(("all", "some")), name, draw_sentence(rng, depth - 1, inner, names))
    parts = [draw_sentence(rng, depth - 1, unknowns, names) for _ in range(2)]
    return (rng.choice(PAIRS), parts[0], parts[1])


def draw_world(rng, size, signature=SIGNATURE):
    tables = {}
    for name, arity in signature.functions:
        tables[name] = [rng.randrange(size) for _ in range(size ** arity)]
    for name, arity in signature.relations:
        tables[name] = [rng.random() < 0.5 for _ in range(size ** arity)]
    return World(signature, size, tables)


def state(thing):
    """Plain data that differ whenever two things differ, also where Python calls them equal."""
    if isinstance(thing, (list, tuple)):
        return [type(thing).__name__] + [state(part) for part in thing]
    if isinstance(thing, dict):
        return ["dict"] + [[state(key), state(thing[key])] for key in thing]
    if hasattr(thing, "__dict__") and not callable(thing):
        return [type(thing).__name__, state(vars(thing))]
    return [type(thing).__name__, thing]


class Case(unittest.TestCase):
    """A test case that also sees whether a call changes what it is passed or the object that it is called on."""

    def call(self, function, *args, **more):
        owner = getattr(function, "__self__", None)
        before = state([owner, args, more])
        try:
            result = function(*args, **more)
            return list(result) if isinstance(result, types.GeneratorType) else result
        finally:
            self.assertEqual(state([owner, args, more]), before, "an argument was changed")

    def gives(self, expected, function, *args, **more):
        """The call returns exactly this, kinds of values included."""
        self.assertEqual(state(self.call(function, *args, **more)), state(expected))

    def fails(self, error, function, *args, **more):
        """The call raises this very error."""
        with self.assertRaises(error) as caught:
            self.call(function, *args, **more)
        self.assertIs(type(caught.exception), error)

    def fails_at(self, line, column, function, *args, **more):
        """The call raises BadText with this line and column."""
        from worldorpaper.errors import BadText
        with self.assertRaises(BadText) as caught:
            self.call(function, *args, **more)
        found = (caught.exception.line, caught.exception.column)
        self.assertEqual(state(found), state((line, column)), args[0] if args else None)
