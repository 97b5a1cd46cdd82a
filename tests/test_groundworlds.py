import itertools
import random

from tests.drawing import GROUND, Case, clause, close_clauses, draw_order, ground_clauses, no, state, yes
from worldorpaper.books import Signature
from worldorpaper.clauseorders import compare_clauses, descending, sorted_clauses
from worldorpaper.groundworlds import rules_of, world_of
from worldorpaper.hearts import saturate
from worldorpaper.orders import Order, plain_order, sorted_terms
from worldorpaper.rewriting import normal, true_by
from worldorpaper.terms import TOP, part_at, places_of, replace_at
from worldorpaper.truth import clauses_true, literal_true, term_value
from worldorpaper.worlds import World

A, B, C, FA, FB = ("a",), ("b",), ("c",), ("f", ("a",)), ("f", ("b",))
PLAIN = plain_order(GROUND)


def plain_rules(order, clauses):
    """Point 83 as it stands."""
    rules = []
    for one in sorted_clauses(order, clauses):
        if one == () or true_by(rules, one):
            continue
        greatest = descending(order, one)[0]
        sides = sorted_terms(order, greatest[1:])[::-1]
        if not greatest[0] or len(sides) < 2 or normal(rules, sides[0]) != sides[0]:
            continue
        new = rules + [(sides[0], sides[1])]
        if not any(true_by(new, (other,)) for other in one if other != greatest):
            rules = new
    return rules


def is_term(side):
    return side != TOP and side[0].islower()


def terms_in(clauses):
    sides = [side for one in clauses for literal in one for side in literal[1:]]
    return [part_at(side, place) for side in sides for place in places_of(side) if is_term(part_at(side, place))]


def draw_clauses(rng):
    if rng.random() < 0.5:
        return close_clauses(rng, rng.randint(0, 6), 3)
    return ground_clauses(rng, rng.randint(0, 7), 3)


class Rules(Case):
    """Points 83 and 84."""

    def test_written_out(self):
        pb = ("P", B)
        for clauses, rules in [([], []), ([()], []), ([clause(yes(A, B))], [(B, A)]), ([clause(no(A, B))], []),
                               ([clause(yes(pb))], [(pb, TOP)]), ([clause(yes(A, A))], []),
                               ([clause(yes(TOP, TOP))], []), ([clause(no(A, A))], []),
                               ([clause(yes(A, FB)), clause(yes(A, B))], [(B, A)]),
                               ([clause(yes(A, FA)), clause(yes(A, B))], [(B, A), (FA, A)]),
                               ([clause(yes(A, B)), clause(yes(A, B), yes(pb))], [(B, A)]),
                               ([clause(yes(A, B)), clause(no(A, B), yes(A, C))], [(B, A), (C, A)]),
                               ([clause(no(A, B), yes(A, C))], []),
                               ([clause(yes(A, C), yes(B, C))], [(C, B)]),
                               ([clause(yes(A, B)), clause(yes(A, C), yes(B, C))], [(B, A)]),
                               ([clause(yes(pb)), clause(yes(A, B))], [(B, A)])]:
            self.gives(rules, rules_of, PLAIN, clauses)
            self.gives(rules, rules_of, PLAIN, tuple(clauses[::-1]))

    def test_conditions_one_by_one(self):
        # The greater side is not its own normal form.
        self.gives([(B, A)], rules_of, PLAIN, [clause(yes(A, B)), clause(yes(B, C), no(B, B), yes(FB, A))])
        # With the new rule another literal would be true, though it is false by the rules made so far.
        self.gives([(B, A)], rules_of, PLAIN, [clause(yes(A, B)), clause(yes(A, C), yes(B, C))])
        self.gives([(FA, C)], rules_of, PLAIN, [clause(yes(C, FA), yes(B, FA))])
        turned = Order.ranked(GROUND, PLAIN.ranking[::-1])
        self.gives([(A, B)], rules_of, turned, [clause(yes(A, B))])

    def test_drawn(self):
        rng = random.Random(1)
        made = 0
        for _ in range(500):
            order = draw_order(rng, GROUND)
            clauses = draw_clauses(rng)
            rules = self.call(rules_of, order, clauses)
            self.assertEqual(state(rules), state(plain_rules(order, clauses)))
            made += len(rules)
            shuffled = rng.sample(clauses, len(clauses)) + clauses[:2]
            self.gives(rules, rules_of, order, shuffled)
        self.assertGreater(made, 300)

    def test_first_members_and_replacements(self):
        rng = random.Random(2)
        for _ in range(200):
            clauses = draw_clauses(rng)
            order = draw_order(rng, GROUND)
            rules = rules_of(order, clauses)
            firsts = [first for first, _ in rules]
            for first in firsts:
                self.assertEqual([part_at(first, place) for place in places_of(first)
                                  if part_at(first, place) in firsts], [first])
            for side in terms_in(clauses)[:3] + firsts[:2]:
                now = side
                while True:
                    places = [place for place in places_of(now) if part_at(now, place) in firsts]
                    if not places:
                        break
                    place = rng.choice(places)
                    now = replace_at(now, place, dict(rules)[part_at(now, place)])
                self.assertEqual(now, normal(rules, side))


class Worlds(Case):
    """Points 85 to 87."""

    def test_written_out(self):
        clauses = [clause(yes(A, FB)), clause(no(A, B)), clause(yes(("R", B, A)), yes(("P", B)))]
        world = World(GROUND, 2, {"a": [0], "b": [1], "c": [0], "f": [0, 0], "g": [0] * 4, "Q": [False],
                                  "P": [False, False], "R": [False, False, False, False]})
        self.gives((world, [A, B]), world_of, GROUND, PLAIN, clauses[:2])
        world = world.with_table("R", [False, False, True, False])
        self.gives((world, [A, B]), world_of, GROUND, PLAIN, clauses)
        self.gives((world, [A, B]), world_of, GROUND, PLAIN, tuple(clauses[::-1] * 2))

    def test_no_terms(self):
        signature = Signature([("f", 1), ("d", 0), ("c", 0)], [("Q", 0), ("S", 0), ("P", 1)])
        order = plain_order(signature)
        blank = World.blank(signature, 1)
        for clauses in [[], [()], [clause(no(("Q",)))], [clause(no(TOP, TOP))], [clause(yes(TOP, TOP))]]:
            self.gives((blank, [("d",)]), world_of, signature, order, clauses)
        self.gives((blank.with_table("Q", [True]), [("d",)]), world_of, signature, order,
                   [clause(yes(("Q",))), clause(no(("S",)))])
        self.gives((blank, [("c",)]), world_of, signature, order, [clause(no(C, C))])

    def test_names_are_ascending(self):
        order = Order(GROUND, {"a": 9, "b": 5, "c": 1, "f": 2, "g": 1, "P": 1, "Q": 1, "R": 1}, PLAIN.ranking)
        _, names = self.call(world_of, GROUND, order, [clause(no(A, FB), no(C, ("g", C, C)))])
        self.assertEqual(names, [C, ("g", C, C), B, FB, A])

    def test_drawn(self):
        rng = random.Random(3)
        for _ in range(250):
            order = draw_order(rng, GROUND)
            clauses = draw_clauses(rng)
            rules = rules_of(order, clauses)
            world, names = self.call(world_of, GROUND, order, clauses)
            expected = sorted_terms(order, [normal(rules, term) for term in terms_in(clauses)])
            self.assertEqual(names, expected or [A])
            self.assertEqual((world.signature, world.size), (GROUND, len(names)))
            for name, arity in GROUND.functions + GROUND.relations:
                for row in itertools.product(range(world.size), repeat=arity):
                    found = normal(rules, (name,) + tuple(names[thing] for thing in row))
                    if GROUND.has_function(name):
                        self.gives(names.index(found) if found in names else 0, world.value, name, row)
                    else:
                        self.gives(found == TOP, world.holds, name, row)
            for thing, name in enumerate(names):
                self.assertEqual(term_value(world, name, {}), thing)
            for literal in itertools.chain(*clauses):
                self.assertIs(literal_true(world, literal, {}), true_by(rules, (literal,)))
            self.assertLessEqual(world.size, max(1, len(set(terms_in(clauses)))))
            shuffled = rng.sample(clauses, len(clauses)) + clauses[:2]
            self.gives((world, names), world_of, GROUND, order, shuffled)

    def test_a_greater_world(self):
        signature = Signature([(f"a{number}", 0) for number in range(40)] + [("f", 1), ("g", 2)], [("R", 2)])
        names = [(f"a{number}",) for number in range(40)]
        clauses = [clause(no(one, two)) for one, two in itertools.pairwise(names)]
        clauses += [clause(yes(("f", one), two)) for one, two in itertools.pairwise(names)]
        clauses += [clause(yes(("R", one, two))) for one, two in itertools.pairwise(names[:-1])]
        world, found = self.call(world_of, signature, plain_order(signature), clauses)
        self.assertEqual((world.size, found), (40, names))
        self.assertTrue(clauses_true(world, clauses))


class Truth(Case):
    """Point 88."""

    def test_saturated_clauses(self):
        rng = random.Random(4)
        worlds = 0
        for _ in range(150):
            order = draw_order(rng, GROUND)
            clauses = draw_clauses(rng)
            heart = saturate(GROUND, order, clauses)
            if heart.refuted is None:
                worlds += 1
                world, _ = world_of(GROUND, order, heart.kept_clauses)
                self.assertTrue(clauses_true(world, clauses))
                self.assertTrue(clauses_true(world, heart.kept_clauses))
        self.assertGreater(worlds, 60)

    def test_clauses_that_are_not_saturated(self):
        # b = c makes no other clause true here, and f(b) = a makes no rule.
        clauses = [clause(yes(B, C)), clause(yes(A, ("f", C))), clause(no(A, FB))]
        world, _ = world_of(GROUND, PLAIN, clauses)
        self.assertEqual([clauses_true(world, [one]) for one in clauses], [True, False, True])
        self.assertEqual(compare_clauses(PLAIN, clauses[0], clauses[1]), -1)
