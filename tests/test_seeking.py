import random

from tests.drawing import GROUND, Case, clause, close_clauses, draw_clause, draw_order, ground_clauses, no, yes
from tests.test_groundrules import readers
from tests.test_ruleworlds import Growing
from worldorpaper.clauses import clause_unknowns, make_clause
from worldorpaper.orders import plain_order
from worldorpaper.seeking import Seeker
from worldorpaper.truth import false_values

A, B, C, X, Y, Z = ("a",), ("b",), ("c",), "x", "y", "z"
FX, FFX = ("f", "x"), ("f", ("f", "x"))
CLAUSES = [
    (), clause(yes(("Q",))), clause(no(("Q",)), yes(A, B)),
    clause(no(("P", X))), clause(yes(("P", X))), clause(yes(("P", FX)), no(("P", X))),
    clause(no(("P", FFX)), no(("P", X))),
    clause(no(("R", X, Y)), no(("R", Y, Z)), yes(("R", X, Z))), clause(no(("R", X, Y)), no(("P", Y))),
    clause(yes(("R", X, Y)), yes(("P", Y))), clause(no(("R", X, X))), clause(no(("R", X, FX)), yes(("P", X))),
    clause(yes(X, Y)), clause(yes(X, FX)), clause(no(X, FX)), clause(yes(FX, ("f", Y)), yes(X, Y)),
    clause(yes(("P", X)), yes(("P", Y)), no(("Q",))), clause(no(("R", X, A)), yes(("P", Y)), no(("R", Z, Z))),
    clause(yes(("R", FX, ("g", X, Y)))), clause(no(("g", X, Y), X), yes(Y, X)), clause(no(("P", ("g", X, ("f", Y))))),
    clause(yes(("g", FX, Y), ("f", ("g", Y, X)))), clause(no(("R", Y, FX)), no(("P", X)), no(("R", X, Y))),
]


def plain_first(world, names, one):
    values = false_values(world, one)
    return None if values is None else tuple(names[value] for value in values)


class Seeking(Case):
    """The first false values of point 138, in a world that changes."""

    def follow(self, rng, order, ground, clauses):
        growing = Growing(order)
        seekers = [Seeker(growing.world, one) for one in clauses]
        rows = 0
        for one in ground:
            growing.put(one)
            if rng.random() < 0.6:
                world = growing.world.as_world()
                for seeker, sought in zip(seekers, clauses):
                    # Not each of them sees each state of the world.
                    for _ in range(rng.choice((0, 1, 1, 2))):
                        row = seeker.first_false()
                        self.assertEqual(row, plain_first(world, growing.world.names, sought), sought)
                        rows += row is not None and len(row) > 0
        return rows

    def test_written_out(self):
        growing = Growing(plain_order(GROUND))
        seeker = Seeker(growing.world, clause(no(("R", X, Y)), yes(("P", Y))))
        a, b, c = [growing.number(term) for term in (A, B, C)]
        growing.put()
        self.assertIsNone(seeker.first_false())
        growing.put(clause(yes(("R", B, A))), clause(yes(("R", B, C))), clause(yes(("R", C, A))))
        # The clause has its literals in the order of their texts.
        self.assertEqual(clause_unknowns(clause(no(("R", X, Y)), yes(("P", Y)))), [Y, X])
        self.assertEqual(seeker.first_false(), (a, b))
        self.assertEqual(seeker.first_false(), (a, b))
        growing.put(clause(yes(("P", A))))
        self.assertEqual(seeker.first_false(), (c, b))
        growing.put(clause(yes(("R", A, B))))
        self.assertEqual(seeker.first_false(), (b, a))
        growing.put(clause(yes(("P", B))), clause(yes(("P", C))))
        self.assertIsNone(seeker.first_false())
        growing.put(clause(yes(A, B)))
        self.assertIsNone(seeker.first_false())
        growing.put(clause(yes(("R", A, ("f", A)))))
        self.assertEqual(seeker.first_false(), (growing.number(("f", A)), a))

    def test_parts_without_a_common_unknown(self):
        growing = Growing(plain_order(GROUND))
        seeker = Seeker(growing.world, clause(yes(("P", X)), yes(("R", Y, Y)), no(("Q",))))
        names = [growing.number(term) for term in (A, B, C)]
        growing.put(clause(yes(("P", A))), clause(yes(("R", A, A))), clause(yes(("R", B, B))),
                    clause(yes(A, C), yes(B, C)))
        self.assertIsNone(seeker.first_false())
        growing.put(clause(yes(("Q",))))
        self.assertIsNone(seeker.first_false())
        growing.put(clause(no(("f", A), ("f", C)), yes(("P", ("f", A)))))
        self.assertEqual(seeker.first_false(), (names[1], growing.number(("f", A))))

    def test_chosen_clauses(self):
        rng = random.Random(13801)
        rows = 0
        for number in range(150):
            ground = (close_clauses, ground_clauses, readers)[number % 3](rng, rng.randint(1, 12), 2)
            rows += self.follow(rng, draw_order(rng, GROUND), ground, CLAUSES)
        self.assertGreater(rows, 3000)

    def test_drawn_clauses(self):
        rng = random.Random(13802)
        rows = 0
        for number in range(150):
            ground = (close_clauses, ground_clauses, readers)[number % 3](rng, rng.randint(1, 12), 2)
            clauses = [make_clause(draw_clause(rng, 3, 2, (X, Y, Z), GROUND)) for _ in range(12)]
            rows += self.follow(rng, draw_order(rng, GROUND), ground, clauses)
        self.assertGreater(rows, 1200)

    def test_relations_alone(self):
        # Without equations little becomes new, and many leads are followed.
        rng = random.Random(13803)
        rows = 0
        terms = [A, B, C, ("f", A), ("f", B), ("f", ("f", A)), ("g", A, B), ("g", ("f", A), A)]
        for _ in range(120):
            ground = []
            for _ in range(30):
                literals = []
                for _ in range(rng.choice((1, 1, 2))):
                    atom = rng.choice([("P", rng.choice(terms)), ("R", rng.choice(terms), rng.choice(terms)), ("Q",)])
                    literals.append(rng.choice((yes, yes, no))(atom))
                ground.append(clause(*literals))
            clauses = [one for one in CLAUSES if rng.random() < 0.4]
            clauses += [make_clause(draw_clause(rng, 3, 2, (X, Y), GROUND)) for _ in range(5)]
            rows += self.follow(rng, draw_order(rng, GROUND), ground, clauses)
        self.assertGreater(rows, 5000)
