import random

from tests.drawing import GROUND, Case, draw_atom, draw_order, draw_term, ground_clauses
from worldorpaper.clauses import make_clause, make_literal
from worldorpaper.numbering import Sides
from worldorpaper.rewriting import Rewriter, normal, true_by
from worldorpaper.terms import TOP, part_at, places_of, replace_at

A, B, C = ("a",), ("b",), ("c",)


def plain_normal(rules, side):
    """Point 75 as it stands."""
    now = side[:1] + tuple(plain_normal(rules, argument) for argument in side[1:])
    found = [second for first, second in rules if first == now]
    return plain_normal(rules, found[0]) if found else now


def draw_rules(rng, count):
    """Rules that some order can use together; first members may be equal or stand in one another."""
    order = draw_order(rng, GROUND)
    rules = []
    while len(rules) < count:
        if rng.random() < 0.3:
            rules.append((draw_atom(rng, 1, (), GROUND), TOP))
        else:
            one, other = [draw_term(rng, 2, (), GROUND) for _ in range(2)]
            if order.is_greater(one, other):
                rules.append((one, other))
    return rules


class Normal(Case):
    """Point 75."""

    def test_written_out(self):
        rules = [(C, B), (("f", B), C), (B, A), (("P", A), TOP)]
        self.gives(A, normal, rules, C)
        self.gives(("f", A), normal, rules, ("f", B))
        self.gives(("g", A, ("f", ("f", A))), normal, rules, ("g", C, ("f", ("f", B))))
        self.gives(TOP, normal, rules, ("P", C))
        self.gives(("P", ("f", A)), normal, rules, ("P", ("f", C)))
        self.gives(A, normal, tuple(rules), A)
        self.gives(TOP, normal, rules, TOP)
        self.gives(C, normal, [], C)
        self.gives(("R", A, A), normal, rules, ("R", B, C))

    def test_several_times(self):
        rules = [(("f", ("f", A)), ("f", A)), (("f", A), B), (("f", B), A), (("g", A, B), ("f", ("f", B)))]
        self.gives(B, normal, rules, ("f", A))
        self.gives(A, normal, rules, ("f", ("f", A)))
        self.gives(B, normal, rules, ("g", ("f", B), ("f", A)))
        long = A
        for _ in range(19):
            long = ("f", long)
        self.gives(B, normal, rules, long)

    def test_the_first_rule_counts(self):
        self.gives(A, normal, [(C, A), (C, B)], C)
        self.gives(B, normal, [(C, B), (C, A)], C)
        self.gives(TOP, normal, [(("Q",), TOP), (("Q",), TOP)], ("Q",))

    def test_sides_that_stay(self):
        rules = [(("f", A), A), (("P", A), TOP)]
        for side in (A, B, ("f", B), ("g", A, A), ("Q",), ("P", B), ("R", A, A), TOP):
            self.gives(side, normal, rules, side)

    def test_by_position_alone(self):
        with self.assertRaises(TypeError):
            normal(rules=[], side=A)
        with self.assertRaises(TypeError):
            normal([], side=A)

    def test_drawn(self):
        rng = random.Random(1)
        changed = 0
        for _ in range(500):
            rules = draw_rules(rng, rng.randint(0, 12))
            firsts = [first for first, _ in rules]
            for _ in range(4):
                side = draw_atom(rng, 2, (), GROUND) if rng.random() < 0.3 else draw_term(rng, 3, (), GROUND)
                found = self.call(normal, rules, side)
                self.assertEqual(found, plain_normal(rules, side))
                self.assertFalse([place for place in places_of(found) if part_at(found, place) in firsts])
                self.assertEqual(normal(rules, found), found)
                changed += found != side
        self.assertGreater(changed, 400)

    def test_any_order_of_replacements(self):
        # With these first members, none of which stands in another one, the order does not matter.
        rng = random.Random(2)
        rules = [(C, B), (("f", B), C), (("g", B, B), ("f", B)), (("R", B, B), TOP), (("P", B), TOP)]
        for _ in range(300):
            side = draw_atom(rng, 2, (), GROUND) if rng.random() < 0.3 else draw_term(rng, 3, (), GROUND)
            now = side
            while True:
                places = [place for place in places_of(now) if part_at(now, place) in dict(rules)]
                if not places:
                    break
                place = rng.choice(places)
                now = replace_at(now, place, dict(rules)[part_at(now, place)])
            self.gives(now, normal, rules, side)

    def test_long_ways(self):
        # At each level each of 19 steps starts anew with a part that goes the way of the level below.
        start, end = ("b0",), ("b19",)
        rules = [((f"b{number}",), (f"b{number + 1}",)) for number in range(19)]
        for stem in "cdef":
            rules += [((f"{stem}{number}", end), (f"{stem}{number + 1}", start)) for number in range(19)]
            start, end = (f"{stem}0", start), (f"{stem}19", end)
        self.gives(end, normal, rules, start)
        self.gives(end, normal, rules[::-1], start)


class TrueBy(Case):
    """Point 75."""

    def test_written_out(self):
        rules = [(B, A), (("P", A), TOP)]
        self.gives(False, true_by, rules, ())
        for sign, left, right, expected in [(True, A, B, True), (False, A, B, False), (True, A, C, False),
                                            (False, A, C, True), (True, ("P", B), TOP, True),
                                            (False, ("P", B), TOP, False), (True, ("P", C), TOP, False),
                                            (False, ("P", C), TOP, True), (True, C, C, True), (False, C, C, False),
                                            (True, TOP, TOP, True), (False, TOP, TOP, False)]:
            self.gives(expected, true_by, rules, ((sign, left, right),))
            self.gives(expected, true_by, tuple(rules), (make_literal(sign, left, right),))
            self.gives(True, true_by, rules, make_clause([(True, A, B), (sign, left, right)]))
            self.gives(expected, true_by, rules, make_clause([(False, A, B), (sign, left, right)]))

    def test_drawn(self):
        rng = random.Random(3)
        answers = {True: 0, False: 0}
        for _ in range(600):
            rules = draw_rules(rng, rng.randint(0, 12))
            (clause,) = ground_clauses(rng, 1, 3)
            expected = any((plain_normal(rules, left) == plain_normal(rules, right)) is sign
                           for sign, left, right in clause)
            self.gives(expected, true_by, rules, clause)
            answers[expected] += 1
        self.assertTrue(min(answers.values()) > 100, answers)


class Rewriters(Case):
    """Rules that come and go."""

    def test_rules_for_atoms(self):
        rewriter = Rewriter(Sides())
        a, b, pa, pb, top = [rewriter.sides.number_of(side) for side in (A, B, ("P", A), ("P", B), TOP)]
        rewriter.put(b, a)
        self.assertEqual([rewriter.normal_form(side) for side in (pa, pb, b)], [pa, pa, a])
        rewriter.put(pa, top)
        self.assertEqual([rewriter.normal_form(side) for side in (pa, pb, top)], [top, top, top])
        self.assertEqual([rewriter.with_normal_arguments(side) for side in (pa, pb)], [pa, pa])
        rewriter.drop(pa)
        rewriter.drop(pb)
        self.assertEqual([rewriter.normal_form(side) for side in (pa, pb)], [pa, pa])

    def test_terms_that_were_met(self):
        rewriter = Rewriter(Sides())
        a, b, c, fb, pfb = [rewriter.sides.number_of(side) for side in (A, B, C, ("f", B), ("P", ("f", B)))]
        rewriter.put(b, c)
        rewriter.normal_form(pfb)
        fc = rewriter.sides.number_of(("f", C))
        self.assertEqual([rewriter.has_met(term) for term in (a, b, c, fb, fc)], [False, True, True, True, True])
        rewriter.put(a, fb)
        self.assertEqual(rewriter.normal_form(a), fc)

    def test_deep_sides(self):
        def times(count, term):
            for _ in range(count):
                term = ("f", term)
            return term

        sides = Sides()
        rewriter = Rewriter(sides)
        rewriter.put(sides.number_of(times(3, B)), sides.number_of(A))
        for count in (3000, 4999):
            found = rewriter.normal_form(sides.number_of(("P", times(count, B))))
            self.assertEqual(found, sides.number_of(("P", times(count - 3, A))))
        # A way of many rules.
        for number in range(3000):
            rewriter.put(sides.number_of((f"c{number}",)), sides.number_of(("f", (f"c{number + 1}",))))
        self.assertEqual(rewriter.normal_form(sides.number_of(("c0",))), sides.number_of(times(3000, ("c3000",))))
