import random

from tests.drawing import GROUND, Case, clause, close_clauses, draw_order, ground_clauses, no, state, yes
from tests.test_groundrules import readers
from worldorpaper.books import Signature
from worldorpaper.groundworlds import world_of
from worldorpaper.orders import plain_order
from worldorpaper.ranks import Ranks
from worldorpaper.ruleworlds import RuleWorld

A, B, C, FA = ("a",), ("b",), ("c",), ("f", ("a",))


class Growing:
    """A world of clauses that come one after the other."""

    def __init__(self, order, signature=GROUND):
        self.ranks = Ranks(order)
        self.world = RuleWorld(signature, self.ranks)

    def put(self, *clauses):
        for one in clauses:
            self.world.put(self.ranks.ranked_clause(one))
        self.world.refresh()

    def number(self, side):
        return self.ranks.sides.number_of(side)

    def sides(self, numbers):
        return [self.ranks.sides.listed[number] for number in numbers]


class Refreshing(Case):
    """Points 85 and 86 for clauses that come one after the other."""

    def test_no_terms(self):
        signature = Signature([("f", 1), ("d", 0), ("c", 0)], [("Q", 0), ("P", 1)])
        growing = Growing(plain_order(signature), signature)
        growing.put()
        self.assertEqual(growing.sides(growing.world.names), [("d",)])
        growing.put(clause(yes(("Q",))))
        self.assertEqual(growing.world.as_world().table("Q"), (True,))
        growing.put(clause(no(C, ("f", C))))
        self.assertEqual(growing.sides(growing.world.names), [C, ("f", C)])
        self.assertEqual(growing.world.as_world().table("f"), (1, 0))

    def test_changes(self):
        growing = Growing(plain_order(GROUND))
        growing.put(clause(yes(("P", B))))
        world = growing.world
        self.assertEqual((growing.sides(world.names), world.changes), ([B], []))
        before = world.renewals
        growing.put(clause(yes(("P", FA))))
        # The least name stands for what has no name.
        self.assertEqual((growing.sides(world.names), world.changes, world.renewals), ([A, B, FA], [], before + 1))
        growing.put(clause(yes(("P", C))))
        self.assertEqual(growing.sides(world.names), [A, B, C, FA])
        self.assertEqual((growing.sides(world.changes), world.renewals), ([C, ("P", C)], before + 1))
        self.assertEqual([world.places[name] for name in world.names], [0, 1, 2, 3])
        growing.put(clause(yes(("f", C), B)), clause(no(("P", C)), yes(("R", C, A))))
        self.assertEqual(sorted(growing.sides(world.changes[2:])), sorted([("f", C), ("R", C, A)]))
        self.assertEqual(world.renewals, before + 1)
        self.assertEqual(growing.sides(world.applications(growing.number(B))), [B, ("f", C)])
        growing.put(clause(yes(A, B)))
        self.assertEqual((growing.sides(world.names), world.changes, world.renewals), ([A, C, FA], [], before + 2))

    def test_entries(self):
        growing = Growing(plain_order(GROUND))
        growing.put(clause(yes(("P", B))), clause(yes(("R", A, B))), clause(yes(("f", B), A)),
                    clause(no(C, ("g", A, B))))
        a, b, c = [growing.number(term) for term in (A, B, C)]
        world = growing.world
        self.assertEqual([world.value("f", [name]) for name in (a, b, c)], [a, a, a])
        self.assertEqual([world.value("g", (a, b)), world.value("g", (b, a)), world.value("c", [])],
                         [growing.number(("g", A, B)), a, c])
        self.assertEqual([world.holds("P", [name]) for name in (a, b)], [False, True])
        self.assertEqual([world.holds("R", (a, b)), world.holds("R", (b, a))], [True, False])
        self.assertIs(world.holds("Q", ()), False)
        self.assertEqual(growing.sides(world.true_atoms("R")), [("R", A, B)])
        self.assertEqual(growing.sides(world.true_atoms("R", 1, b)), [("R", A, B)])
        self.assertEqual(list(world.true_atoms("R", 0, b)), [])
        self.assertEqual(growing.sides(world.applications(a)), [A, ("f", B)])

    def test_a_rule_that_comes_and_goes_at_once(self):
        for order in (1, -1):
            growing = Growing(plain_order(GROUND))
            growing.put(clause(no(A, A)))
            # As long as Q is not true, f(a) = a makes a rule.
            growing.put(*[clause(yes(("Q",))), clause(yes(("f", A), A), yes(("Q",)))][::order])
            self.assertEqual(growing.sides(growing.world.names), [A, ("f", A)])
            self.assertEqual(growing.sides(growing.world.applications(growing.number(("f", A)))), [("f", A)])
            self.assertEqual(growing.world.as_world().table("f"), (1, 0))

    def test_drawn(self):
        rng = random.Random(8501)
        renewed = kept = 0
        for number in range(450):
            order = draw_order(rng, GROUND)
            growing = Growing(order)
            draw = (close_clauses, ground_clauses, readers)[number % 3]
            clauses = draw(rng, rng.randint(1, 10), 3)
            come = []
            while len(come) < len(clauses):
                further = clauses[len(come):][:rng.randint(1, 3)]
                come.extend(further)
                before = growing.world.renewals
                growing.put(*further)
                world, names = world_of(GROUND, order, come)
                self.assertEqual(growing.sides(growing.world.names), names)
                self.assertEqual(state(growing.world.as_world()), state(world))
                if growing.world.renewals == before:
                    kept += 1
                else:
                    renewed += 1
                self.look_into(growing.world, world)
        self.assertGreater(min(renewed, kept), 150)

    def look_into(self, found, world):
        """The tables and files are those of the world."""
        for thing, name in enumerate(found.names):
            self.assertEqual(found.places[name], thing)
            self.assertEqual(found.names[world.value("f", [thing])], found.value("f", [name]))
            self.assertEqual(world.holds("P", [thing]), found.holds("P", [name]))
            for other, second in enumerate(found.names):
                self.assertEqual(found.names[world.value("g", (thing, other))], found.value("g", (name, second)))
                self.assertEqual(world.holds("R", (thing, other)), found.holds("R", (name, second)))
        atoms = found.true_atoms("R")
        self.assertEqual(len(atoms), sum(world.table("R")))
        for index in (0, 1):
            for name in found.names:
                expected = [atom for atom in atoms if found.sides.arguments[atom][index] == name]
                self.assertEqual(sorted(found.true_atoms("R", index, name)), sorted(expected))
        for name in found.names[1:]:
            applications = [number for number in range(len(found.sides.listed))
                            if not found.sides.is_atom(number) and number
                            and all(part in found.places for part in found.sides.arguments[number])
                            and found.value(found.sides.names[number], found.sides.arguments[number]) == name]
            self.assertEqual(sorted(found.applications(name)), applications)
