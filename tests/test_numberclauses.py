import random

from tests.drawing import GROUND, Case, clause, draw_clause, draw_term, ground_clauses, no, yes
from worldorpaper.clauses import fill_clause, literal_text, make_clause, make_literal
from worldorpaper.errors import BadStep
from worldorpaper.numberclauses import (
    factored_clause, filled_clause, numbered_clause, numbered_literal, ordered_clause, ordered_literal, plain_clause,
    replaced_clause)
from worldorpaper.numbering import Sides
from worldorpaper.steps import factor_step, replace_step
from worldorpaper.terms import TOP, places_of

A, B, C = ("a",), ("b",), ("c",)


def draw_ground(rng, most):
    (one,) = ground_clauses(rng, 1, most)
    return one


class Clauses(Case):
    def test_there_and_back(self):
        rng = random.Random(1)
        sides = Sides()
        for _ in range(200):
            one = draw_ground(rng, 4)
            numbered = numbered_clause(sides, one)
            self.assertEqual(plain_clause(sides, numbered), one)
            self.assertEqual(numbered, tuple(numbered_literal(sides, literal) for literal in one))
        self.assertEqual(plain_clause(sides, numbered_clause(sides, ())), ())

    def test_orders(self):
        rng = random.Random(2)
        sides = Sides()
        for _ in range(400):
            literals = [literal for _ in range(3) for literal in draw_ground(rng, 3)]
            literals += [rng.choice([yes(TOP, TOP), no(TOP, TOP), no(("Q",)), yes(A, A)])]
            rng.shuffle(literals)
            numbered = [numbered_literal(sides, literal) for literal in literals]
            for literal, (sign, left, right) in zip(literals, numbered):
                turned = ordered_literal(sides, sign, right, left)
                self.assertEqual(turned, numbered_literal(sides, make_literal(literal[0], literal[2], literal[1])))
            self.assertEqual(plain_clause(sides, ordered_clause(sides, numbered)), make_clause(literals))

    def test_literals_whose_texts_begin_alike(self):
        sides = Sides()
        literals = [yes(("n",), A), yes(("no",), A), yes(("nota",), A), no(("P", A)), yes(("P", A)), no(("P1", A)),
                    yes(("Q",)), no(("Q",)), yes(("Q1",)), yes(A, B), no(A, B), no(A, C), yes(A, C), yes(TOP, TOP),
                    no(TOP, TOP), yes(("t",), ("true1",)), yes(("true1",), ("u",)), yes(A, ("a1",)),
                    no(("a1",), ("b",))]
        numbered = [numbered_literal(sides, literal) for literal in literals]
        made = plain_clause(sides, ordered_clause(sides, numbered))
        self.assertEqual(made, tuple(sorted(literals, key=literal_text)))

    def test_filled(self):
        rng = random.Random(3)
        sides = Sides()
        for _ in range(300):
            one = draw_clause(rng, 4, 2, ("x", "y"), GROUND)
            terms = {name: draw_term(rng, 2, (), GROUND) for name in ("x", "y")}
            numbers = {name: sides.number_of(term) for name, term in terms.items()}
            self.assertEqual(plain_clause(sides, filled_clause(sides, one, numbers)), fill_clause(one, terms))


class Steps(Case):
    def test_replaced(self):
        rng = random.Random(4)
        sides = Sides()
        taken = 0
        for _ in range(300):
            first, second = draw_ground(rng, 3), draw_ground(rng, 3)
            for index, (sign, left, right) in enumerate(first):
                for side in (0, 1):
                    for target, literal in enumerate(second):
                        for place in places_of(literal):
                            try:
                                result = replace_step(first, index, side, second, target, place)
                            except BadStep:
                                continue
                            numbered = [numbered_clause(sides, one) for one in (first, second)]
                            made = replaced_clause(sides, numbered[0], index, side, numbered[1], target, place)
                            self.assertEqual(plain_clause(sides, made), result)
                            taken += 1
        self.assertGreater(taken, 300)

    def test_factored(self):
        rng = random.Random(5)
        sides = Sides()
        taken = 0
        for _ in range(300):
            one = clause(*[yes(*rng.sample([A, B, C, ("f", A)], 2)) for _ in range(3)], no(A, B))
            for index in range(len(one)):
                for target in range(len(one)):
                    for side, target_side in ((0, 0), (0, 1), (1, 0), (1, 1)):
                        try:
                            result = factor_step(one, index, side, target, target_side)
                        except BadStep:
                            continue
                        made = factored_clause(sides, numbered_clause(sides, one), index, side, target, target_side)
                        self.assertEqual(plain_clause(sides, made), result)
                        taken += 1
        self.assertGreater(taken, 300)
