import itertools
import random

from tests.drawing import Case, clause, dense_clause, draw_atom, draw_clause, draw_literal, draw_term, draw_world
from worldorpaper.books import Signature
from worldorpaper.clauses import clause_unknowns, fill_clause, make_clause
from worldorpaper.matching import match_literal, match_term, subsumes, unify, variants
from worldorpaper.terms import TOP, fill_term, part_at, places_of, unknowns_of
from worldorpaper.truth import clause_true

A, B = ("a",), ("b",)
FA, FX = ("f", A), ("f", "x")
FEW = Signature([("a", 0), ("g", 2)], [])


def is_term(side):
    return isinstance(side, str) or (side != TOP and not side[0][0].isupper())


def plain_match(pattern, term, filling):
    """The only filling that can be right, from what stands where the unknowns stand."""
    longer = dict(filling)
    for place in places_of(pattern):
        if isinstance(part_at(pattern, place), str):
            if place not in places_of(term) or not is_term(part_at(term, place)):
                return None
            longer.setdefault(part_at(pattern, place), part_at(term, place))
    return longer if fill_term(pattern, longer) == term else None


def plain_fillings(pattern, literal, filling):
    found = []
    if pattern[0] == literal[0]:
        for one, other in ((literal[1], literal[2]), (literal[2], literal[1])):
            longer = plain_match(pattern[1], one, filling)
            if longer is not None:
                longer = plain_match(pattern[2], other, longer)
            if longer is not None and longer not in found:
                found.append(longer)
    return found


def plain_subsumes(first, second):
    for targets in itertools.permutations(second, len(first)):
        fillings = [{}]
        for pattern, literal in zip(first, targets):
            fillings = [longer for filling in fillings for longer in plain_fillings(pattern, literal, filling)]
        if fillings:
            return True
    return False


def plain_unify(terms):
    """Robinson's way: filling all terms again for each unknown."""
    filling = {}
    while True:
        now = [fill_term(term, filling) for term in terms]
        pair = next((pair for other in now[1:] for pair in clashes(now[0], other)), None)
        if pair is None:
            return filling
        one, other = pair if isinstance(pair[0], str) else pair[::-1]
        if not isinstance(one, str) or one in unknowns_of(other):
            return None
        filling = {name: fill_term(term, {one: other}) for name, term in filling.items()}
        filling[one] = other


def clashes(one, other):
    if one != other:
        if isinstance(one, str) or isinstance(other, str) or one[0] != other[0] or len(one) != len(other):
            yield one, other
        else:
            for inner, argument in zip(one[1:], other[1:]):
                yield from clashes(inner, argument)


class MatchTerm(Case):
    """Point 59."""

    def test_written_out(self):
        self.gives({"x": A}, match_term, "x", A)
        self.gives({"x": FA}, match_term, FX, ("f", FA))
        self.gives({"x": A, "y": FA}, match_term, ("g", "x", "y"), ("g", A, FA))
        self.gives({"x": A}, match_term, ("g", "x", "x"), ("g", A, A))
        self.gives(None, match_term, ("g", "x", "x"), ("g", A, B))
        self.gives({}, match_term, FA, FA)
        self.gives(None, match_term, FA, ("f", B))
        self.gives(None, match_term, FX, "x")
        self.gives(None, match_term, A, "x")
        # An unknown is no application of a function with its first letter.
        self.gives(None, match_term, ("f", "x"), "fa")
        self.gives(None, match_term, FX, ("h", A))
        self.gives(None, match_term, A, FA)

    def test_unknowns_of_the_term(self):
        self.gives({"x": "x"}, match_term, "x", "x")
        self.gives({"x": "y"}, match_term, "x", "y")
        self.gives({"x": FX}, match_term, "x", FX)
        self.gives({"x": "y", "y": "x"}, match_term, ("g", "x", "y"), ("g", "y", "x"))
        self.gives(None, match_term, ("g", "x", "x"), ("g", "x", "y"))
        self.gives({"x": "x", "y": ("f", "y")}, match_term, ("g", "x", "y"), ("g", "x", ("f", "y")))

    def test_atoms_and_top(self):
        self.gives({"x": FA}, match_term, ("P", "x"), ("P", FA))
        self.gives({}, match_term, ("Q",), ("Q",))
        self.gives(None, match_term, ("P", A), ("Q",))
        self.gives({}, match_term, TOP, TOP)
        self.gives(None, match_term, TOP, ("Q",))
        self.gives(None, match_term, ("Q",), TOP)
        self.gives(None, match_term, TOP, "x")
        for side in (TOP, ("Q",), ("P", A), ("P", "x")):
            self.gives(None, match_term, "x", side)
            self.gives(None, match_term, "x", side, {"y": A})

    def test_fillings(self):
        self.gives({"x": A}, match_term, "x", A, None)
        self.gives({"x": A}, match_term, "x", A, {})
        self.gives({"x": A}, match_term, "x", A, {"x": A})
        self.gives(None, match_term, "x", B, {"x": A})
        self.gives({"y": B, "x": A}, match_term, "x", A, {"y": B})
        self.gives({"y": B}, match_term, FA, FA, {"y": B})
        self.gives(None, match_term, FA, B, {"y": B})
        self.gives({"x": FX}, match_term, FX, ("f", FX), {"x": FX})
        self.gives(None, match_term, "x", "x", {"x": A})
        self.gives({"x": "y", "y": A}, match_term, ("g", "x", "y"), ("g", "y", A), {"x": "y"})

    def test_the_result_is_new(self):
        filling = {"y": B}
        result = match_term(FA, FA, filling)
        result["y"] = A
        self.assertEqual(filling, {"y": B})
        match_term("x", A)["x"] = B
        self.assertEqual(match_term("x", A), {"x": A})

    def test_drawn(self):
        rng = random.Random(1)
        found = 0
        for _ in range(1500):
            pattern = draw_term(rng, 2) if rng.random() < 0.6 else draw_atom(rng, 1)
            filling = {name: draw_term(rng, 1) for name in "xyz" if rng.random() < 0.2}
            given = filling if filling or rng.random() < 0.5 else None
            longer = {name: draw_term(rng, 1) for name in "xyz"}
            term = fill_term(pattern, {**longer, **filling}) if rng.random() < 0.7 else draw_term(rng, 2)
            expected = plain_match(pattern, term, filling)
            result = self.call(match_term, pattern, term, given)
            self.assertEqual(result, expected)
            if result is not None:
                found += 1
                self.assertEqual(sorted(result), sorted({*filling, *unknowns_of(pattern)}))
                self.assertEqual(fill_term(pattern, result), term)
        self.assertGreater(found, 300)


class MatchLiteral(Case):
    """Point 60."""

    def test_written_out(self):
        self.gives([{"x": A}], match_literal, (True, ("P", "x"), TOP), (True, ("P", A), TOP))
        self.gives([], match_literal, (True, ("P", "x"), TOP), (False, ("P", A), TOP))
        self.gives([], match_literal, (False, ("P", "x"), TOP), (True, ("P", A), TOP))
        self.gives([], match_literal, (True, ("P", "x"), TOP), (True, ("Q",), TOP))
        self.gives([{"x": A, "y": B}, {"x": B, "y": A}], match_literal, (True, "x", "y"), (True, A, B))
        self.gives([{"x": A}], match_literal, (False, FX, "x"), (False, A, FA))
        self.gives([{"x": A}], match_literal, (False, FX, "x"), (False, FA, A))
        self.gives([{"x": A}], match_literal, (True, "x", "x"), (True, A, A))
        self.gives([{"x": A, "y": A}], match_literal, (True, "x", "y"), (True, A, A))
        self.gives([], match_literal, (True, "x", "x"), (True, A, B))
        self.gives([{"x": "x", "y": "y"}, {"x": "y", "y": "x"}], match_literal, (True, "x", "y"), (True, "x", "y"))

    def test_top(self):
        self.gives([], match_literal, (True, "x", "y"), (True, ("P", A), TOP))
        self.gives([], match_literal, (True, ("P", A), TOP), (True, A, B))
        self.gives([{}], match_literal, (False, TOP, TOP), (False, TOP, TOP))
        self.gives([], match_literal, (False, "x", "x"), (False, TOP, TOP))

    def test_fillings(self):
        pattern, literal = (True, "x", "y"), (True, A, B)
        self.gives([{"x": B, "y": A}], match_literal, pattern, literal, {"x": B})
        self.gives([{"z": B, "x": A, "y": B}, {"z": B, "x": B, "y": A}], match_literal, pattern, literal, {"z": B})
        self.gives([], match_literal, pattern, literal, {"x": FA})
        self.gives([{"x": A, "y": B}, {"x": B, "y": A}], match_literal, pattern, literal, None)
        self.gives([], match_literal, pattern, (False, A, B), {})

    def test_drawn(self):
        rng = random.Random(2)
        lengths = {0: 0, 1: 0, 2: 0}
        for _ in range(1500):
            pattern = draw_literal(rng, 1)
            filling = {name: draw_term(rng, 1) for name in "xyz" if rng.random() < 0.1}
            if rng.random() < 0.8:
                (literal,) = fill_clause((pattern,), {**{name: draw_term(rng, 1) for name in "xyz"}, **filling})
            else:
                literal = draw_literal(rng, 1)
            result = self.call(match_literal, pattern, literal, filling)
            self.assertEqual(result, plain_fillings(pattern, literal, filling))
            lengths[len(result)] += 1
        self.assertTrue(min(lengths.values()) > 20, lengths)


class Subsumes(Case):
    """Points 61 and 62."""

    def check(self, first, second):
        filling = self.call(subsumes, first, second)
        if filling is not None:
            self.assertEqual(sorted(filling), sorted(clause_unknowns(first)))
            images = [fill_clause((literal,), filling)[0] for literal in first]
            self.assertEqual(len(set(images)), len(images))
            self.assertTrue(set(images) <= set(second))
        return filling is not None

    def test_written_out(self):
        px, pa, q = (True, ("P", "x"), TOP), (True, ("P", A), TOP), (True, ("Q",), TOP)
        self.gives({}, subsumes, (), ())
        self.gives({}, subsumes, (), clause(px, q))
        self.gives(None, subsumes, clause(q), ())
        self.gives({"x": A}, subsumes, clause(px), clause(pa, q))
        self.gives(None, subsumes, clause(pa), clause(px, q))
        self.gives({"x": "x"}, subsumes, clause(px), clause(px))
        self.gives(None, subsumes, clause(px), clause((False, ("P", A), TOP)))
        self.gives({"x": "x", "y": "y"}, lambda one: subsumes(one, one), clause((True, ("R", "x", "y"), TOP)))

    def test_unlike_literals(self):
        first = clause((True, ("P", "x"), TOP), (True, ("P", "y"), TOP))
        self.gives(None, subsumes, first, clause((True, ("P", A), TOP)))
        self.gives(None, subsumes, first, clause((True, ("P", A), TOP), (True, ("Q",), TOP)))
        self.assertTrue(self.check(first, clause((True, ("P", A), TOP), (True, ("P", B), TOP))))

    def test_sides_change_their_order(self):
        self.gives({"x": A}, subsumes, clause((True, FX, "x")), clause((True, FA, A)))
        self.gives({"x": "z"}, subsumes, clause((True, "x", ("y",))), clause((True, "z", ("y",))))
        self.assertTrue(self.check(clause((True, "x", "y")), clause((True, A, B))))

    def test_equations_and_atoms(self):
        self.gives(None, subsumes, clause((True, "x", "y")), clause((True, ("P", A), TOP)))
        self.gives({}, subsumes, clause((False, TOP, TOP)), clause((False, TOP, TOP)))

    def test_drawn(self):
        rng = random.Random(3)
        answers = {True: 0, False: 0}
        for number in range(1200):
            if number % 2:
                first, second = dense_clause(rng, 4), dense_clause(rng, 4)
            else:
                first = draw_clause(rng, 3, 1)
                filling = {name: draw_term(rng, 1) for name in clause_unknowns(first)}
                second = make_clause(fill_clause(first, filling) + draw_clause(rng, 2, 1))
            answer = self.check(first, second)
            self.assertIs(answer, plain_subsumes(first, second))
            answers[answer] += 1
        self.assertTrue(min(answers.values()) > 200, answers)

    def test_truth(self):
        rng = random.Random(4)
        seen = 0
        while seen < 60:
            first, second = dense_clause(rng, 2), dense_clause(rng, 4)
            if subsumes(first, second) is not None:
                world = draw_world(rng, rng.randint(1, 3))
                if clause_true(world, first):
                    seen += 1
                    self.assertTrue(clause_true(world, second))

    def test_ten_literals(self):
        names = [f"x{number}" for number in range(10)]
        ring = [(True, ("R", names[at], names[(at + 1) % 10]), TOP) for at in range(10)]
        two_rings = [(True, ("R", names[at], names[at - 4 if at % 5 == 4 else at + 1]), TOP) for at in range(10)]
        free = [(True, ("R", name, "y" + name), TOP) for name in names]
        three = [(True, ("R", "u", "v"), TOP), (True, ("R", "v", "w"), TOP), (True, ("R", "w", "u"), TOP)]
        self.assertFalse(self.check(clause(*ring), clause(*two_rings)))
        self.assertFalse(self.check(clause(*two_rings), clause(*ring)))
        self.assertTrue(self.check(clause(*free), clause(*ring)))
        self.assertFalse(self.check(clause(*ring), clause(*free)))
        self.assertFalse(self.check(clause(*free[:7], *three), clause(*ring)))
        marked = [(True, ("S", name, "y" + name, A), TOP) for name in names[:5]]
        marked += [(True, ("S", name, "y" + name, "z" + name), TOP) for name in names[5:]]
        few = [(True, ("S", name, name, A), TOP) for name in names[:4]]
        few += [(True, ("S", name, name, B), TOP) for name in names[4:]]
        self.assertFalse(self.check(clause(*marked), clause(*few)))
        self.assertTrue(self.check(clause(*marked[1:]), clause(*few)))

    def test_pigeons(self):
        many = [(True, ("P", f"x{number}"), TOP) for number in range(10)]
        holes = [(True, ("P", ("c%d" % number,)), TOP) for number in range(9)] + [(True, ("Q",), TOP)]
        self.assertFalse(self.check(clause(*many), clause(*holes)))
        self.assertTrue(self.check(clause(*many[1:]), clause(*holes)))


class Variants(Case):
    """Point 62."""

    def test_written_out(self):
        one = clause((True, ("R", "x", "y"), TOP), (False, ("P", "x"), TOP))
        self.gives(True, variants, one, one)
        self.gives(True, variants, one, clause((True, ("R", "z", "x"), TOP), (False, ("P", "z"), TOP)))
        self.gives(True, variants, one, clause((True, ("R", "y", "x"), TOP), (False, ("P", "y"), TOP)))
        self.gives(False, variants, one, clause((True, ("R", "x", "y"), TOP), (False, ("P", "y"), TOP)))
        self.gives(False, variants, one, clause((True, ("R", "x", "x"), TOP), (False, ("P", "x"), TOP)))
        self.gives(False, variants, clause((True, ("R", "x", "x"), TOP), (False, ("P", "x"), TOP)), one)
        self.gives(False, variants, one, one[:1])
        self.gives(False, variants, one[1:], one)
        self.gives(False, variants, one, clause((True, ("R", "x", A), TOP), (False, ("P", "x"), TOP)))
        self.gives(True, variants, (), ())
        self.gives(False, variants, (), one)
        self.gives(True, variants, clause((True, "x", ("f", "y"))), clause((True, "z", ("f", "a1"))))

    def test_drawn(self):
        rng = random.Random(5)
        for _ in range(400):
            first = draw_clause(rng, 3, 1)
            names = rng.sample(["x", "y", "z", "u", "v"], 5)
            renaming = dict(zip(["x", "y", "z"], names))
            self.gives(True, variants, first, fill_clause(first, renaming))
            second = dense_clause(rng, 3)
            first = dense_clause(rng, 3)
            unknowns = clause_unknowns(first)
            rows = itertools.permutations(("x", "y", "z", "u"), len(unknowns))
            self.gives(any(fill_clause(first, dict(zip(unknowns, row))) == second for row in rows),
                       variants, first, second)


class Unify(Case):
    """Point 64."""

    def check(self, terms):
        filling = self.call(unify, *terms)
        expected = plain_unify(terms) if terms else {}
        if expected is None or filling is None:
            self.assertEqual(filling, expected)
            return False
        names = [name for term in terms for name in unknowns_of(term)]
        self.assertTrue(set(filling) <= set(names))
        for term in filling.values():
            self.assertTrue(set(unknowns_of(term)) <= set(names) - set(filling))
        self.assertTrue(all(fill_term(term, filling) == fill_term(terms[0], filling) for term in terms))
        for name in names:
            self.assertEqual(fill_term(fill_term(name, filling), expected), fill_term(name, expected))
        return True

    def test_few_arguments(self):
        self.gives({}, unify)
        for term in ("x", A, FX, ("g", "x", "x"), ("P", "x"), ("Q",)):
            self.gives({}, unify, term)
            self.gives({}, unify, term, term)
            self.gives({}, unify, term, term, term)

    def test_written_out(self):
        self.gives({"x": A}, unify, "x", A)
        self.gives({"x": A}, unify, A, "x")
        self.gives({"x": A}, unify, ("P", "x"), ("P", A))
        self.gives({"x": A, "y": A}, unify, ("g", "x", "y"), ("g", "y", A))
        self.gives({"x": FA, "y": A}, unify, ("g", "x", A), ("g", ("f", "y"), "y"))
        self.gives(None, unify, A, B)
        self.gives(None, unify, FX, "x")
        self.gives(None, unify, "x", FX)
        self.gives(None, unify, ("g", "x", A), ("g", B, "x"))
        self.gives(None, unify, ("P", "x"), ("R", "x", "x"))
        self.gives(None, unify, ("Q",), ("P", "x"))
        self.gives(None, unify, ("f", "x"), ("g", "x", "x"))
        self.gives(None, unify, ("g", "x", "y"), ("g", ("f", "y"), ("f", "x")))
        self.assertTrue(self.check(["x", "y"]))
        self.assertTrue(self.check(["x", "y", "z", "x"]))
        self.gives({"x": A, "y": A, "z": A}, unify, "x", "y", "z", A)
        self.gives(None, unify, "x", A, B)
        self.gives(None, unify, A, "x", B)

    def test_unknowns_that_are_joined_in_rows(self):
        for terms in itertools.permutations([("g", "x", "y"), ("g", "y", "z"), ("g", "z", FA)]):
            self.gives({"x": FA, "y": FA, "z": FA}, lambda *rows: dict(sorted(unify(*rows).items())), *terms)
        for terms in itertools.permutations([("g", "x", "y"), ("g", "y", "z"), ("g", "z", FX)]):
            self.gives(None, unify, *terms)

    def test_drawn(self):
        rng = random.Random(6)
        answers = {True: 0, False: 0}
        for number in range(2000):
            names = ("x", "y", "z", "u")
            if number % 2:
                terms = [draw_term(rng, 2, names, FEW) for _ in range(rng.randint(2, 3))]
            else:
                terms = [("S", *(draw_term(rng, 1, names, FEW) for _ in range(3))) for _ in range(rng.randint(2, 3))]
            answers[self.check(terms)] += 1
        self.assertTrue(min(answers.values()) > 300, answers)

    def test_terms_that_double(self):
        def pairs(stem):
            row = A
            for number in range(15):
                row = ("g", ("g", f"{stem}{number}", f"{stem}{number}"), row)
            return row

        def singles(stem):
            row = A
            for number in range(15):
                row = ("g", f"{stem}{number + 1}", row)
            return row

        filling = unify(("h", pairs("x"), pairs("y"), "x15"), ("h", singles("x"), singles("y"), "y15"))
        self.assertEqual(len(filling), 31)
        self.assertEqual(len({*unknowns_of(filling["x1"]), *unknowns_of(filling["y1"])}), 1)
        self.assertEqual(filling["x3"], filling["y3"])

    def test_terms_that_grow_a_lot(self):
        def tree(leaves):
            while len(leaves) > 1:
                leaves = [("g", *leaves[at:at + 2]) if at + 1 < len(leaves) else leaves[at]
                          for at in range(0, len(leaves), 2)]
            return leaves[0]

        many = 150
        first = tree([f"x{number}" for number in range(many)])
        second = tree([("g", f"x{number + 1}", f"x{number + 1}") for number in range(many)])
        filling = unify(first, second)
        self.assertEqual(len(filling), many)
        self.assertEqual(filling[f"x{many - 1}"], ("g", f"x{many}", f"x{many}"))
        ring = tree([("g", f"x{(number + 1) % many}", f"x{number}") for number in range(many)])
        self.gives(None, lambda: unify(first, ring))
