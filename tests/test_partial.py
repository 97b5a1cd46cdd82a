import itertools
import random

from tests.drawing import SIGNATURE, Case, clause, draw_atom, draw_clause, draw_term, draw_world, no, state, yes
from worldorpaper.books import Signature
from worldorpaper.clauses import clause_unknowns, make_literal
from worldorpaper.errors import BadWorld
from worldorpaper.partial import Partial, instances
from worldorpaper.terms import TOP
from worldorpaper.truth import clause_true, literal_true, term_value

A, B = ("a",), ("b",)
CA, CB, CQ = ("a", ()), ("b", ()), ("Q", ())


def grown(*rows, clauses=()):
    partial = Partial(SIGNATURE, clauses)
    for cell, entry in rows:
        partial = partial.with_cell(cell, entry)
    return partial


def plain_term(decided, term, values):
    """Point 90 as it stands: the pair for a term, an atom or TOP."""
    if isinstance(term, str):
        return ("is", values[term])
    if term == TOP:
        return ("is", True)
    found = [plain_term(decided, argument, values) for argument in term[1:]]
    blocking = [pair for pair in found if pair[0] == "blocked"]
    if blocking:
        return blocking[0]
    cell = (term[0], tuple(thing for _, thing in found))
    return ("is", decided[cell]) if cell in decided else ("blocked", cell)


def plain_literal(decided, literal, values):
    left, right = [plain_term(decided, side, values) for side in literal[1:]]
    for pair in (left, right):
        if pair[0] == "blocked":
            return pair
    return ("is", (left[1] == right[1]) is literal[0])


def plain_clause(decided, one, values):
    found = [plain_literal(decided, literal, values) for literal in one]
    if ("is", True) in found:
        return ("is", True)
    cells = tuple(dict.fromkeys(cell for word, cell in found if word == "blocked"))
    return ("blocked", cells) if cells else ("is", False)


def draw_partial(rng, steps):
    """A partial world with some cells decided at random."""
    partial = Partial(SIGNATURE, [draw_clause(rng, 2, 1)])
    for _ in range(steps):
        name, arity = rng.choice(SIGNATURE.functions + SIGNATURE.relations)
        cell = (name, tuple(rng.randrange(partial.size) for _ in range(arity)))
        if partial.is_free(cell):
            ways = partial.ways(cell)
            partial = partial.with_cell(cell, rng.choice(ways[:-1] if partial.size == 4 and name.islower() else ways))
    return partial


class Start(Case):
    """Point 89."""

    def test_no_constant(self):
        for clauses in [[], (), [()], [clause(yes("x", "y"))], [clause(yes(("P", "x")), no(("Q",))), ()]]:
            partial = self.call(Partial, SIGNATURE, clauses)
            self.assertEqual((partial.signature, partial.size, list(partial)), (SIGNATURE, 1, []))

    def test_the_first_constant_that_stands_there(self):
        for clauses, name in [([clause(yes(A, B))], "a"), ([clause(no(B, "x"))], "b"),
                              ([clause(yes(("P", "x"))), clause(yes(("S", "x", ("f", ("g", "x", B)), "y")))], "b"),
                              ([clause(yes(B, B)), clause(yes(("Q",)), no(("P", ("f", A))))], "a")]:
            self.assertEqual(list(self.call(Partial, SIGNATURE, clauses)), [((name, ()), 0)])
            self.assertEqual(list(self.call(Partial, SIGNATURE, tuple(clauses))), [((name, ()), 0)])
        # The first letter of an unknown is no constant.
        self.assertEqual(list(Partial(SIGNATURE, [clause(yes(B, "a1"), no("a1", "a2"))])), [(CB, 0)])
        turned = Signature([("f", 1), ("b", 0), ("a", 0)], [])
        self.assertEqual(list(Partial(turned, [clause(yes(A, B))])), [(CB, 0)])

    def test_clauses_are_not_kept(self):
        clauses = [clause(yes(B, B))]
        partial = Partial(SIGNATURE, clauses)
        clauses[0] = clause(yes(A, A))
        self.assertEqual(list(partial.with_cell(CQ, True)), [(CB, 0), (CQ, True)])


class Cells(Case):
    """Point 89."""

    def test_is_free(self):
        partial = grown((("f", (0,)), 1), (CQ, False), clauses=[clause(yes(B, B))])
        for cell in [CA, ("f", (1,)), ("g", (0, 0)), ("g", (1, 1)), ("h", (0, 1, 0)), ("P", (0,)), ("P", (1,)),
                     ("S", (1, 1, 1))]:
            self.gives(True, partial.is_free, cell)
        for cell in [CB, CQ, ("f", (0,)), ("f", (2,)), ("f", (-1,)), ("f", ()), ("f", (1, 1)), ("g", (1,)), ("g", (0, 2)),
                     ("g", (-1, 0)), ("a", (0,)), ("c", ()), ("C", (0,)), ("", ()), ("Q", (0,)), ("P", ()), ("P", (2,)),
                     ("P", (0, 0)), ("x", ())]:
            self.gives(False, partial.is_free, cell)

    def test_ways(self):
        partial = grown((("f", (0,)), 1))
        for cell in [CA, ("f", (0,)), ("f", (1,)), ("h", (1, 1, 0))]:
            self.gives([0, 1, 2], partial.ways, cell)
        for cell in [CQ, ("P", (1,)), ("S", (0, 0, 0))]:
            self.gives([False, True], partial.ways, cell)
        self.gives([0, 1], Partial(SIGNATURE, []).ways, CA)
        self.gives([False, True], grown((CQ, True)).ways, CQ)

    def test_with_cell(self):
        partial = Partial(SIGNATURE, [clause(yes(A, A))])
        one = self.call(partial.with_cell, CB, 1)
        two = self.call(one.with_cell, ("R", (0, 1)), True)
        three = self.call(two.with_cell, ("f", (1,)), 0)
        four = self.call(three.with_cell, ("g", (1, 1)), 2)
        self.assertEqual([row.size for row in (partial, one, two, three, four)], [1, 2, 2, 2, 3])
        rows = [(CA, 0), (CB, 1), (("R", (0, 1)), True), (("f", (1,)), 0), (("g", (1, 1)), 2)]
        for count, row in enumerate((partial, one, two, three, four), start=1):
            self.assertEqual(state(list(row)), state(rows[:count]))
            self.assertEqual(row.signature, SIGNATURE)
            self.assertIsInstance(row, Partial)
        self.gives(True, four.is_free, ("f", (2,)))
        self.gives(False, three.is_free, ("f", (2,)))

    def test_branches_do_not_meet(self):
        partial = grown((CQ, True))
        left, right = partial.with_cell(CA, 0), partial.with_cell(CA, 1)
        self.assertEqual(list(left), [(CQ, True), (CA, 0)])
        self.assertEqual(list(right), [(CQ, True), (CA, 1)])
        self.assertEqual((list(partial), left.size, right.size), ([(CQ, True)], 1, 2))

    def test_cells_that_are_not_free(self):
        partial = grown((("f", (0,)), 1), (CQ, False))
        for cell in [CQ, ("f", (0,)), ("f", (2,)), ("f", (-1,)), ("f", ()), ("P", (2,)), ("P", ()), ("c", ()), ("C", ())]:
            for entry in (0, 1, True, False):
                self.fails(BadWorld, partial.with_cell, cell, entry)

    def test_entries_that_are_no_ways(self):
        partial = grown((("f", (0,)), 1))
        for entry in (-1, 3, 4, 10 ** 20):
            self.fails(BadWorld, partial.with_cell, CA, entry)
            self.fails(BadWorld, partial.with_cell, ("f", (1,)), entry)
        for entry in (-1, 0, 1, 2, 3):
            self.fails(BadWorld, partial.with_cell, CQ, entry)
            self.fails(BadWorld, partial.with_cell, ("P", (0,)), entry)
        for entry in (True, False):
            self.fails(BadWorld, partial.with_cell, CA, entry)

    def test_iteration(self):
        partial = grown((CQ, True), (CB, 1), (CA, 1))
        self.assertEqual(list(partial), [(CQ, True), (CB, 1), (CA, 1)])
        self.assertEqual([cell for cell, _ in partial], [CQ, CB, CA])
        self.assertEqual(dict(partial), {CQ: True, CB: 1, CA: 1})


class Reading(Case):
    """Point 90."""

    def test_terms(self):
        partial = grown((CA, 0), (("f", (0,)), 1), (("g", (0, 1)), 0), (CQ, True), (("P", (1,)), False))
        for term, expected in [("x", ("is", 1)), ("y", ("is", 0)), (A, ("is", 0)), (B, ("blocked", CB)),
                               (("f", A), ("is", 1)), (("f", "x"), ("blocked", ("f", (1,)))),
                               (("f", ("f", A)), ("blocked", ("f", (1,)))), (("f", ("f", ("f", A))), ("blocked", ("f", (1,)))),
                               (("g", A, ("f", A)), ("is", 0)), (("g", "y", "x"), ("is", 0)),
                               (("g", "x", "y"), ("blocked", ("g", (1, 0)))), (("g", B, ("f", "x")), ("blocked", CB)),
                               (("g", ("f", "x"), B), ("blocked", ("f", (1,)))), (("Q",), ("is", True)),
                               (("P", ("f", A)), ("is", False)), (("P", A), ("blocked", ("P", (0,)))),
                               (("P", B), ("blocked", CB)), (("R", "x", B), ("blocked", CB))]:
            self.gives(expected, partial.read_term, term, {"x": 1, "y": 0, "z": 1})

    def test_literals(self):
        partial = grown((CA, 0), (("f", (0,)), 1), (CQ, True), (("P", (1,)), False))
        for left, right, expected in [(A, "x", True), (A, ("f", A), False), (("Q",), TOP, True), (TOP, TOP, True),
                                      (("P", ("f", A)), TOP, False)]:
            for sign in (True, False):
                self.gives(("is", expected is sign), partial.read_literal, make_literal(sign, left, right), {"x": 0})
        for left, right, cell in [(A, B, CB), (B, ("f", B), CB), (("f", "x"), ("g", A, A), ("g", (0, 0))),
                                  (("f", ("f", A)), ("g", A, A), ("f", (1,))), (("P", "x"), TOP, ("P", (0,))),
                                  (("P", B), TOP, CB)]:
            for sign in (True, False):
                self.gives(("blocked", cell), partial.read_literal, make_literal(sign, left, right), {"x": 0})

    def test_the_left_side_comes_first(self):
        partial = grown()
        self.gives(("blocked", CA), partial.read_literal, (True, A, B), {})
        self.gives(("blocked", CB), partial.read_literal, (True, ("f", B), ("g", A, A)), {})

    def test_clauses(self):
        partial = grown((CA, 0), (("f", (0,)), 1))
        self.gives(("is", False), partial.read_clause, (), {})
        self.gives(("is", True), partial.read_clause, clause(yes(A, "x"), yes(B, "x"), no(("Q",))), {"x": 0})
        self.gives(("is", True), partial.read_clause, clause(yes(B, "x"), no(A, ("f", A))), {"x": 0})
        self.gives(("is", False), partial.read_clause, clause(yes(A, "x"), yes(A, ("f", A))), {"x": 1})
        self.gives(("blocked", (CB, CQ)), partial.read_clause, clause(yes(B, "x"), no(("Q",)), yes(A, "x")), {"x": 1})
        self.gives(("blocked", (CQ, ("f", (1,)))), partial.read_clause,
                   clause(yes(("Q",)), no(("P", ("f", "x"))), yes("x", ("f", "x")), no(("Q",))), {"x": 1})

    def test_drawn(self):
        rng = random.Random(1)
        words = {"is True": 0, "is False": 0, "blocked": 0}
        for _ in range(500):
            partial = draw_partial(rng, rng.choice((3, 30, 200)))
            decided = dict(partial)
            values = {name: rng.randrange(partial.size) for name in ("x", "y", "z", "a1")}
            for term in (draw_term(rng, 2), draw_atom(rng, 1)):
                self.gives(plain_term(decided, term, values), partial.read_term, term, values)
            one = draw_clause(rng, 3, 1)
            for literal in one:
                self.gives(plain_literal(decided, literal, values), partial.read_literal, literal, values)
            expected = plain_clause(decided, one, values)
            self.gives(expected, partial.read_clause, one, values)
            words["blocked" if expected[0] == "blocked" else f"is {expected[1]}"] += 1
        self.assertTrue(min(words.values()) > 50, words)

    def test_worlds_that_continue(self):
        rng = random.Random(2)
        read = 0
        for _ in range(120):
            world = draw_world(rng, rng.randint(1, 4))
            partial, places = Partial(SIGNATURE, [clause(yes(A, A))]), [world.value("a", ())]
            for _ in range(rng.choice((5, 40, 150))):
                name, arity = rng.choice(SIGNATURE.functions + SIGNATURE.relations)
                things = tuple(rng.randrange(partial.size) for _ in range(arity))
                if partial.is_free((name, things)):
                    there = [places[thing] for thing in things]
                    if SIGNATURE.has_relation(name):
                        partial = partial.with_cell((name, things), world.holds(name, there))
                        continue
                    found = world.value(name, there)
                    if found not in places:
                        places.append(found)
                    partial = partial.with_cell((name, things), places.index(found))
            self.assertEqual(partial.size, len(places))
            values = {name: rng.randrange(partial.size) for name in "xyz"}
            moved = {name: places[thing] for name, thing in values.items()}
            term, one = draw_term(rng, 2), draw_clause(rng, 3, 1)
            word, value = partial.read_term(term, values)
            if word == "is":
                read += 1
                self.assertEqual(places[value], term_value(world, term, moved))
            for literal in one:
                word, value = partial.read_literal(literal, values)
                if word == "is":
                    read += 1
                    self.assertIs(value, literal_true(world, literal, moved))
            if partial.read_clause(one, values) == ("is", False):
                self.assertFalse(clause_true(world, one))
        self.assertGreater(read, 100)


class Instances(Case):
    """Point 90."""

    def test_written_out(self):
        clauses = [clause(yes("y", A), yes(("P", "x"))), (), clause(yes(("f", "z"), "z"))]
        self.assertEqual(clause_unknowns(clauses[0]), ["x", "y"])
        self.gives([(0, (0, 0)), (0, (0, 1)), (0, (1, 0)), (0, (1, 1)), (1, ()), (2, (0,)), (2, (1,))],
                   instances, clauses, 2)
        self.gives([(0, (0, 0)), (1, ()), (2, (0,))], instances, tuple(clauses), 1)
        self.gives([], instances, [], 3)
        self.gives([(0, ()), (1, ())], instances, [clause(yes(A, B))] * 2, 4)

    def test_drawn(self):
        rng = random.Random(3)
        for _ in range(60):
            clauses = [draw_clause(rng, 2, 1) for _ in range(rng.randint(0, 4))]
            size = rng.randint(1, 4)
            expected = [(index, row) for index, one in enumerate(clauses)
                        for row in itertools.product(range(size), repeat=len(clause_unknowns(one)))]
            self.gives(expected, instances, clauses, size)
