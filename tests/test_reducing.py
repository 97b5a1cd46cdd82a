import itertools
import random

from tests.drawing import Case, clause, dense_clause, draw_clause, draw_world
from worldorpaper.books import Book, Signature
from worldorpaper.clauses import always_true
from worldorpaper.forms import Form
from worldorpaper.matching import subsumes
from worldorpaper.reducing import needed_clauses
from worldorpaper.terms import TOP
from worldorpaper.truth import clauses_true

A, B = ("a",), ("b",)


def plain_needed(clauses):
    """Point 65 as it stands."""
    needed = []
    for at, one in enumerate(clauses):
        others = [k for k, other in enumerate(clauses) if k != at and subsumes(other, one) is not None]
        if not always_true(one) and not any(k < at or subsumes(one, clauses[k]) is None for k in others):
            needed.append(at)
    return needed


PX, PA, Q = (True, ("P", "x"), TOP), (True, ("P", A), TOP), (True, ("Q",), TOP)


class Needed(Case):
    """Points 65 and 66."""

    def test_written_out(self):
        self.gives([], needed_clauses, [])
        self.gives([0], needed_clauses, [clause(PX)])
        self.gives([0], needed_clauses, [clause(PX), clause(PA)])
        self.gives([1], needed_clauses, [clause(PA), clause(PX)])
        self.gives([1], needed_clauses, (clause(PA, Q), clause(PX), clause(PA)))
        self.gives([0, 1], needed_clauses, [clause(PA), clause(Q)])

    def test_variants_and_equal_clauses(self):
        py = (True, ("P", "y"), TOP)
        self.gives([0], needed_clauses, [clause(PX), clause(py)])
        self.gives([0], needed_clauses, [clause(PX), clause(PX), clause(PX)])
        self.gives([1], needed_clauses, [clause(PA), clause(py), clause(PX), clause(PA)])

    def test_always_true(self):
        self.gives([], needed_clauses, [clause((True, "x", "x"))])
        self.gives([1], needed_clauses, [clause(PX, (False, ("P", "x"), TOP)), clause(PA)])
        self.gives([0], needed_clauses, [clause(Q), clause((True, A, A)), clause((True, TOP, TOP))])

    def test_the_empty_clause(self):
        self.gives([1], needed_clauses, [clause(PX), (), clause(Q), ()])
        self.gives([0], needed_clauses, [()])

    def test_unlike_literals(self):
        two = clause(PX, (True, ("P", "y"), TOP))
        self.gives([0, 1], needed_clauses, [two, clause(PA)])
        self.gives([1], needed_clauses, [two, clause(PX)])

    def test_equations(self):
        self.gives([0], needed_clauses, [clause((True, "x", ("f", "x"))), clause((True, ("f", A), A))])
        self.gives([1], needed_clauses, [clause((True, A, B)), clause((True, "x", "y"))])
        self.gives([0, 1], needed_clauses, [clause((True, A, B)), clause((False, "x", "y"))])
        self.gives([0, 1], needed_clauses, [clause((True, "x", "y")), clause(PA)])
        self.gives([0], needed_clauses, [clause((False, TOP, TOP)), clause((False, TOP, TOP), Q)])

    def test_drawn(self):
        rng = random.Random(1)
        left_out = 0
        for number in range(250):
            if number % 2:
                clauses = [dense_clause(rng, 3) for _ in range(rng.randint(0, 9))]
            else:
                clauses = [draw_clause(rng, 3, 1) for _ in range(rng.randint(0, 7))]
                clauses += [one + one[:0] for one in clauses[:2]]
            needed = self.call(needed_clauses, clauses)
            self.assertEqual(needed, plain_needed(clauses))
            left_out += len(clauses) - len(needed)
            kept = [clauses[at] for at in needed]
            for at, one in enumerate(clauses):
                if at not in needed:
                    self.assertTrue(always_true(one) or any(subsumes(other, one) is not None for other in kept))
            for first, second in itertools.permutations(kept, 2):
                self.assertIsNone(subsumes(first, second))
            for _ in range(5):
                world = draw_world(rng, rng.randint(1, 3))
                self.assertIs(clauses_true(world, kept), clauses_true(world, clauses))
        self.assertGreater(left_out, 300)

    def test_many_clauses(self):
        signature = Signature([("a%d" % number, 0) for number in range(10)], [("P", 1), ("R", 2)])
        pairs = [("and", ("holds", ("P", ("a%d" % number,))),
                  ("holds", ("R", ("a%d" % number,), ("a%d" % ((number + 1) % 10),)))) for number in range(10)]
        sentence = pairs[0]
        for pair in pairs[1:]:
            sentence = ("or", sentence, pair)
        form = Form(Book(signature, [sentence, sentence]))
        self.assertEqual(len(form.clauses), 2048)
        self.gives(list(range(1024)), needed_clauses, form.clauses)
