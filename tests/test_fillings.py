import itertools
import random

from tests.drawing import SIGNATURE, Case, clause, draw_clauses, no, state, yes
from tests.test_answers import read
from worldorpaper.answers import decided_clauses
from worldorpaper.books import Signature
from worldorpaper.clauses import clause_text, clause_unknowns, fill_clause
from worldorpaper.fillings import Fillings, closed_terms, named_signature
from worldorpaper.forms import form_of
from worldorpaper.groundworlds import world_of
from worldorpaper.hearts import Heart
from worldorpaper.lines import cut_lines, first_wrong, judge_lines
from worldorpaper.orders import plain_order
from worldorpaper.terms import term_size
from worldorpaper.truth import clauses_true, false_values

A, B, X, Y = ("a",), ("b",), "x", "y"
# A book that has a world of two things, but whose road of fillings goes on and on.
LEAF = "all y. (not B(y) implies B(y)) implies some w3. A(y, w3) and (B(w3) implies not B(w3))"
FOUR = read("all y. all w3. A(y, w3) implies not B(w3) and some y. A(w3, y)", LEAF, LEAF,
            "(some y. B(y)) and some y. not B(y)", head="relation A 2\nrelation B 1\n")
FA, FX = ("f", ("a",)), ("f", "x")
SMALL = Signature([("a", 0), ("b", 0), ("f", 1)], [("P", 1), ("Q", 0)])
BARE = Signature([("f", 1)], [("P", 1), ("R", 2)])
FLAT = Signature([("b", 0), ("a", 0)], [("P", 1), ("R", 2)])


def plain_terms(signature, depth):
    """Point 137 as it stands."""
    terms = [(name,) for name, arity in signature.functions if arity == 0]
    for _ in range(depth):
        before = list(terms)
        for name, arity in signature.functions:
            if arity >= 1:
                terms += [(name,) + row for row in itertools.product(before, repeat=arity) if (name,
                    ) + row not in before]
    return terms


class PlainFillings:
    """Point 138 as it stands; all levels up to a depth that no test passes."""

    def __init__(self, signature, clauses, picks):
        self.signature, self.clauses = named_signature(signature), clauses
        self.heart = Heart(self.signature, plain_order(self.signature), picks)
        self.put_in, self.world = [], None

    def step(self):
        if not self.heart.has_ended():
            self.heart.step()
            return
        world, names = world_of(self.signature, self.heart.order, self.heart.kept_clauses)
        if clauses_true(world, self.clauses):
            self.world = world
            return
        index = next(at for at, one in enumerate(self.clauses) if false_values(world, one) is not None)
        chosen = (index, [names[thing] for thing in false_values(world, self.clauses[index])])
        assert not self.is_in(*chosen)
        if len(self.put_in) % 3 == 2:
            chosen = next((filling for filling in self.levels() if not self.is_in(*filling)), chosen)
        index, terms = chosen
        pairs = tuple(zip(clause_unknowns(self.clauses[index]), terms))
        self.put_in.append((index, pairs))
        self.heart.add(fill_clause(self.clauses[index], dict(pairs)))

    def levels(self):
        deepest = 3 if any(arity == 1 for _, arity in self.signature.functions) else 1
        for depth in range(deepest):
            for index, one in enumerate(self.clauses):
                for row in itertools.product(plain_terms(self.signature, depth), repeat=len(clause_unknowns(one))):
                    yield index, row

    def is_in(self, index, terms):
        filled = fill_clause(self.clauses[index], dict(zip(clause_unknowns(self.clauses[index]), terms)))
        return any(at == index and fill_clause(self.clauses[at], dict(pairs)) == filled for at, pairs in self.put_in)

    def ended(self):
        return self.world is not None or self.heart.refuted is not None


def outcome(road):
    heart = road.heart
    return state([road.put_in, road.world, heart.given, heart.rows, heart.kept, heart.waiting, heart.steps,
                  heart.refuted])


def run(road, most=2000):
    for _ in range(most):
        if road.has_ended():
            return road
        road.step()
    return road


class Terms(Case):
    """Point 137."""

    def test_named_signature(self):
        for signature in (SIGNATURE, Signature([("f", 1), ("a", 0)], []), Signature([("c1", 0)], [])):
            self.assertIs(self.call(named_signature, signature), signature)
        for functions, relations, name in [([], [], "c1"), ([("f", 1)], [("P", 1)], "c1"),
                                           ([("c1", 1), ("c2", 2)], [], "c3"),
                                           ([("c2", 1)], [("C1", 0)], "c1")]:
            named = self.call(named_signature, Signature(functions, relations))
            self.assertEqual((named.functions, named.relations), (tuple(functions) + ((name, 0),), tuple(relations)))

    def test_closed_terms(self):
        self.gives([A, B], closed_terms, SMALL, 0)
        self.gives([A, B, FA, ("f", B)], closed_terms, SMALL, 1)
        self.gives([A, B, FA, ("f", B), ("f", FA), ("f", ("f", B))], closed_terms, SMALL, 2)
        self.gives([B, A], closed_terms, FLAT, 0)
        self.gives([B, A], closed_terms, FLAT, 5)
        two = Signature([("g", 2), ("a", 0), ("f", 1), ("b", 0)], [("P", 1)])
        self.gives([A, B, ("g", A, A), ("g", A, B), ("g", B, A), ("g", B, B), FA, ("f", B)], closed_terms, two, 1)

    def test_signatures_without_constants(self):
        for depth in range(4):
            self.gives([], closed_terms, BARE, depth)
            self.gives([], closed_terms, Signature([], []), depth)

    def test_as_the_point_stands(self):
        for signature, depth in [(SIGNATURE, 1), (SMALL, 4), (Signature([("g", 2), ("a", 0), ("h", 2)], []), 3)]:
            for at in range(depth + 1):
                self.gives(plain_terms(signature, at), closed_terms, signature, at)


class Road(Case):
    """Points 138 and 139."""

    def test_a_refutation_ends_the_road(self):
        road = run(Fillings(SMALL, [clause(yes(("P", X))), clause(no(("P", A)))]))
        before = outcome(road)
        for _ in range(3):
            road.step()
            self.assertEqual(outcome(road), before)

    def test_no_clauses(self):
        road = Fillings(SMALL, [])
        self.assertEqual((road.put_in, road.world, road.has_ended(), road.heart.given), ([], None, False, []))
        self.assertIsNone(self.call_step(road))
        self.assertEqual((road.world.size, road.put_in, road.has_ended()), (1, [], True))
        before = outcome(road)
        road.step()
        self.assertEqual(outcome(road), before)

    def call_step(self, road):
        return road.step()

    def test_the_clauses_are_those_of_the_start(self):
        clauses = [clause(yes(("P", X))), clause(no(("P", A)))]
        road = Fillings(SMALL, clauses)
        clauses.clear()
        self.assertIsNotNone(run(road).heart.refuted)

    def test_clauses_without_unknowns(self):
        for clauses in [[()], [clause(yes(A, B)), clause(no(A, B))], [clause(yes(("P", A))), clause(no(("P", B))),
            clause(yes(A, B))]]:
            road = run(Fillings(SMALL, clauses))
            self.assertIsNotNone(road.heart.refuted)
            self.assertIsNone(road.world)
            self.assertTrue(all(pairs == () for _, pairs in road.put_in))
            rows = self.call(road.paper)
            self.assertTrue(judge_lines(SMALL, clauses, rows))
            # Each clause is given, and then filled by nothing.
            self.assertEqual([reason[0] for _, reason in rows][:2], ["given", "fill"])
        self.assertEqual(state(run(Fillings(SMALL, [()])).paper()), state([((), ("given", 0)), ((), ("fill", 0, ()))]))
        # All fillings of all levels are in when the third one is due.
        clauses = [clause(yes(A, B)), clause(yes(FA, B)), clause(yes(("Q",))), clause(yes(("P", A))),
                   clause(no(("P", FA)))]
        road = run(Fillings(SMALL, clauses))
        self.assertEqual(sorted(index for index, _ in road.put_in), [0, 1, 2, 3, 4])

    def test_the_third_filling_comes_from_the_levels(self):
        clauses = [clause(yes(("P", X))), clause(no(("P", ("f", ("f", ("f", FA))))))]
        road = run(Fillings(SMALL, clauses))
        first = [(0, ((X, A),)), (1, ())]
        self.assertEqual(road.put_in[:2], first)
        self.assertEqual(road.put_in[2], (0, ((X, B),)))
        self.assertIsNotNone(road.heart.refuted)

    def test_what_is_in_is_not_put_in_again(self):
        # x = y filled by b and a is the clause that a and b made of it.
        clauses = [clause(yes(X, Y)), clause(no(A, B))]
        road = run(Fillings(FLAT, clauses))
        texts = [(index, clause_text(fill_clause(clauses[index], dict(pairs)))) for index, pairs in road.put_in]
        self.assertEqual(len(set(texts)), len(texts))

    def test_the_same_clause_twice(self):
        # It is another clause, so its fillings can be in beside those of the first one.
        clauses = [clause(yes(("P", X))), clause(yes(("P", Y))), clause(no(("P", ("f", ("f", ("f", ("f", FA)))))))]
        road = run(Fillings(SMALL, clauses))
        self.assertIn((1, ((Y, A),)), road.put_in)
        self.assertTrue(judge_lines(SMALL, clauses, road.paper()))

    def test_a_signature_without_constants(self):
        road = Fillings(BARE, [clause(yes(("P", X))), clause(no(("P", Y)))])
        self.assertEqual(road.signature.functions, (("f", 1), ("c1", 0)))
        self.assertIs(road.heart.signature, road.signature)
        run(road)
        self.assertIsNotNone(road.heart.refuted)
        self.assertTrue(judge_lines(road.signature, [clause(yes(("P", X))), clause(no(("P", Y)))], road.paper()))

    def test_picks_are_those_of_the_heart(self):
        clauses = [clause(yes(("P", X)), yes(("Q",))), clause(no(("P", FX)), no(("Q",))),
                   clause(yes(X, A), yes(("P", A)))]
        for picks in ((), [1], (3, 0, 2)):
            road, plain = Fillings(SMALL, clauses, picks), PlainFillings(SMALL, clauses, picks)
            for _ in range(40):
                if not road.has_ended():
                    road.step()
                    plain.step()
                self.assertEqual(outcome(road), outcome(plain))

    def test_as_the_points_stand(self):
        rng = random.Random(13801)
        worlds = refuted = levels = 0
        for _ in range(160):
            signature = rng.choice((SMALL, BARE, FLAT, FLAT))
            clauses = draw_clauses(rng, 7, signature)
            picks = [rng.randrange(5) for _ in range(rng.randint(0, 3))]
            road, plain = Fillings(signature, tuple(clauses), picks), PlainFillings(signature, clauses, picks)
            for _ in range(60):
                if road.has_ended() or len(road.put_in) > 14:
                    break
                road.step()
                plain.step()
                self.assertEqual(road.has_ended(), plain.ended())
                self.assertEqual(state(road.put_in), state(plain.put_in))
            self.assertEqual(outcome(road), outcome(plain))
            levels += len(road.put_in) > 2
            if road.world is not None:
                worlds += 1
                self.assertTrue(clauses_true(road.world, clauses))
                self.assertEqual(road.world.signature.functions, road.signature.functions)
            if road.heart.refuted is not None:
                refuted += 1
                rows = self.call(road.paper)
                self.assertTrue(judge_lines(road.signature, clauses, rows))
                self.assertEqual(cut_lines(rows), rows)
                for row, reason in rows:
                    if reason[0] == "fill":
                        self.assertEqual(rows[reason[1]][1][0], "given")
                    if reason[0] in ("drop", "replace", "factor"):
                        self.assertNotEqual(rows[reason[1]][1][0], "given")
        self.assertGreater(min(worlds, refuted, levels), 25)

    def test_no_functions(self):
        # Point 139: then the road always ends.
        rng = random.Random(13901)
        for _ in range(60):
            clauses = draw_clauses(rng, 8, FLAT)
            self.assertTrue(run(Fillings(FLAT, clauses), 5000).has_ended())

    def test_a_refutation_by_deep_terms(self):
        clauses = [clause(yes(("P", A))), clause(no(("P", X)), yes(("P", FX))),
                   clause(no(("P", ("f", ("f", ("f", FA))))))]
        road = run(Fillings(SMALL, clauses))
        self.assertTrue(judge_lines(SMALL, clauses, self.call(road.paper)))


class LongRoads(Case):
    """Many steps of point 138, each of which does not take longer than the first ones."""

    def test_some_steps_as_the_point_stands(self):
        clauses = decided_clauses(form_of(FOUR))
        signature = form_of(FOUR).signature
        road, plain = Fillings(signature, clauses, [4]), PlainFillings(signature, clauses, [4])
        for _ in range(110):
            road.step()
            plain.step()
            self.assertEqual(state(road.put_in), state(plain.put_in))
        self.assertEqual(outcome(road), outcome(plain))

    def test_many_steps(self):
        road = Fillings(form_of(FOUR).signature, decided_clauses(form_of(FOUR)), [4])
        counts = []
        for steps in (925, 5000):
            for _ in range(steps):
                road.step()
            counts.append((len(road.heart.rows), len(road.heart.kept), len(road.put_in), road.heart.steps))
        self.assertEqual(counts[0], (1101, 412, 461, 464))
        self.assertIs(road.has_ended(), False)
        self.assertGreater(max(term_size(term) for _, pairs in road.put_in for _, term in pairs), 900)
        self.assertIsNone(first_wrong(road.signature, road.heart.given, road.heart.rows))

    def test_terms_that_are_nested_deeper_than_calls(self):
        signature = Signature([("a", 0), ("f", 1)], [("R", 2)])
        road = run(Fillings(signature, [clause(yes(("R", X, FX)))]), 6000)
        self.assertEqual((len(road.put_in), len(road.heart.kept), road.has_ended()), (3000, 3000, False))
        self.assertEqual([term_size(pairs[0][1]) for _, pairs in road.put_in], list(range(1, 3001)))
        self.assertIsNone(first_wrong(signature, road.heart.given, road.heart.rows))

    def test_terms_with_ever_more_places(self):
        # Each filling at false values has twice as many places as the one before it.
        signature = Signature([("a", 0), ("g", 2)], [("R", 2)])
        road = run(Fillings(signature, [clause(yes(("R", X, ("g", X, X))))]), 1200)
        self.assertEqual((len(road.put_in), len(road.heart.kept), road.has_ended()), (600, 600, False))

    def test_equations(self):
        # Each filling names a thing and makes a rule for a term that nothing else reads.
        signature = Signature([("a", 0), ("f", 1), ("g", 1)], [("P", 1)])
        clauses = [clause(yes(("g", FX), X)), clause(no(X, FX))]
        road = run(Fillings(signature, clauses), 3000)
        self.assertIs(road.has_ended(), False)
        self.assertIsNone(first_wrong(signature, road.heart.given, road.heart.rows))
