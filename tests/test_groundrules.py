import random

from tests.drawing import GROUND, Case, clause, close_clauses, draw_order, ground_clauses, no, yes
from tests.test_groundworlds import plain_rules
from worldorpaper.groundrules import GroundRules
from worldorpaper.orders import plain_order
from worldorpaper.ranks import Ranks
from worldorpaper.terms import TOP

A, B, C = ("a",), ("b",), ("c",)
PA, PB, Q = ("P", ("a",)), ("P", ("b",)), ("Q",)


def readers(rng, count, most):
    """Clauses with an equation and many atoms whose arguments it makes equal."""
    atoms = [("P", A), ("P", B), ("R", A, A), ("R", A, B), ("R", B, B), Q]
    clauses = [clause(yes(A, B))]
    for _ in range(count):
        literals = [(rng.random() < 0.7, atom, TOP) for atom in rng.sample(atoms, rng.randint(1, most))]
        clauses.append(clause(*literals))
    return clauses


class Growing:
    """Rules of clauses that come one after the other, with sides instead of numbers."""

    def __init__(self, order):
        self.ranks = Ranks(order)
        self.rules = GroundRules(self.ranks)

    def put(self, one):
        self.rules.put(self.ranks.ranked_clause(one))

    def refresh(self):
        tops = self.rules.refresh()
        return None if tops is None else [self.ranks.sides.listed[top] for top in tops]

    def pairs(self):
        sides = self.ranks.sides.listed
        return [(sides[first], sides[second]) for first, second in self.rules.ascending_pairs()]


class Refreshing(Case):
    """Point 83 for clauses that come one after the other."""

    def test_what_changed_is_told(self):
        growing = Growing(plain_order(GROUND))
        growing.put(clause(yes(PA), yes(Q)))
        self.assertEqual((growing.refresh(), growing.pairs()), ([PA], [(PA, TOP)]))
        growing.put(clause(no(PA), yes(PB)))
        self.assertEqual((growing.refresh(), growing.pairs()), ([PB], [(PA, TOP), (PB, TOP)]))
        growing.put(clause(no(PA), no(PB)))
        self.assertEqual((growing.refresh(), growing.pairs()), ([], [(PA, TOP), (PB, TOP)]))
        # The rules for greater sides go.
        growing.put(clause(yes(Q)))
        self.assertEqual((sorted(growing.refresh()), growing.pairs()), ([PA, PB, Q], [(Q, TOP)]))
        # Both sides of this equation are new, so no other form changes.
        growing.put(clause(yes(("f", C), C)))
        self.assertEqual((growing.refresh(), growing.pairs()), ([("f", C)], [(Q, TOP), (("f", C), C)]))
        # But c stands in f(c).
        growing.put(clause(yes(A, C)))
        self.assertEqual((growing.refresh(), growing.pairs()), (None, [(C, A), (Q, TOP)]))

    def test_atoms_whose_arguments_have_other_forms(self):
        # P(b) is true as P(a) is, so the rule for R(a, a) goes when P(a) gets one.
        r = ("R", A, A)
        growing = Growing(plain_order(GROUND))
        for one in [clause(yes(A, B)), clause(yes(PB), yes(r))]:
            growing.put(one)
        growing.refresh()
        self.assertEqual(growing.pairs(), [(B, A), (r, TOP)])
        growing.put(clause(yes(PA)))
        growing.refresh()
        self.assertEqual(growing.pairs(), [(B, A), (PA, TOP)])

    def test_drawn(self):
        rng = random.Random(8301)
        kinds = {"same": 0, "some": 0, "all": 0}
        for number in range(600):
            order = draw_order(rng, GROUND)
            growing = Growing(order)
            draw = (close_clauses, ground_clauses, readers)[number % 3]
            clauses = draw(rng, rng.randint(1, 14), 2 + number % 2)
            come = []
            for one in clauses:
                come.append(one)
                growing.put(one)
                if rng.random() < 0.7:
                    before = growing.pairs()
                    tops = growing.refresh()
                    self.assertEqual(growing.pairs(), plain_rules(order, come))
                    kinds["all" if tops is None else "some" if tops else "same"] += 1
                    if tops is not None:
                        changed = set(before) ^ set(growing.pairs())
                        self.assertLessEqual({first for first, _ in changed}, set(tops))
        self.assertGreater(min(kinds.values()), 50, kinds)


