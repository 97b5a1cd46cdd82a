import itertools
import random

from tests.drawing import Case, clause, dense_clause, draw_clause, draw_literal, draw_term, draw_world
from worldorpaper.clauses import clause_text, clause_unknowns, fill_clause, make_clause, make_literal
from worldorpaper.errors import BadStep
from worldorpaper.steps import drop_step, either_step, factor_step, fill_step, replace_step
from worldorpaper.terms import TOP, part_at, places_of, replace_at
from worldorpaper.truth import literal_true, term_value

A, B, C = ("a",), ("b",), ("c",)
FA, FB = ("f", A), ("f", B)
PA, PB, Q = ("P", A), ("P", B), ("Q",)
SIDES = (-2, -1, 0, 1, 2, 3)


def true_at(world, literals, values):
    return any(literal_true(world, literal, values) for literal in literals)


def all_values(world, clauses):
    names = list(dict.fromkeys(name for one in clauses for name in clause_unknowns(one)))
    for things in itertools.product(world.things, repeat=len(names)):
        yield dict(zip(names, things))


class FillStep(Case):
    """Point 12: fill_step."""

    def test_filling(self):
        start = clause((True, "x", "y"), (False, ("P", "x"), TOP))
        self.gives(clause((True, A, FA), (False, PA, TOP)), fill_step, start, [("x", A), ("y", FA)])
        self.gives(clause((True, A, "y"), (False, PA, TOP)), fill_step, start, (("x", A),))
        self.gives(start, fill_step, start, [])
        self.gives((), fill_step, (), (("x", A),))

    def test_at_once(self):
        start = clause((True, ("P", "x"), TOP), (True, ("R", "x", "y"), TOP))
        self.gives(clause((True, ("P", "y"), TOP), (True, ("R", "y", "x"), TOP)),
                   fill_step, start, [("x", "y"), ("y", "x")])
        self.gives(clause((True, ("P", ("f", "x")), TOP), (True, ("R", ("f", "x"), "y"), TOP)),
                   fill_step, start, [("x", ("f", "x"))])

    def test_literals_fall_together(self):
        start = clause((True, ("P", "x"), TOP), (True, ("P", "y"), TOP), (True, "x", "y"))
        self.gives(clause((True, PA, TOP), (True, A, A)), fill_step, start, [("x", A), ("y", A)])

    def test_unknowns_that_do_not_occur(self):
        start = clause((True, ("P", "x"), TOP))
        self.gives(start, fill_step, start, [("w", A), ("v", "w")])

    def test_wrong(self):
        start = clause((True, ("P", "x"), TOP))
        for pairs in [[("x", A), ("x", A)], [("x", A), ("y", B), ("x", B)], [("w", A), ("w", B)]]:
            self.fails(BadStep, fill_step, start, pairs)
        for first in [A, 3, None, ("x",), True, b"x"]:
            self.fails(BadStep, fill_step, start, [(first, A)])
            self.fails(BadStep, fill_step, start, [("x", A), (first, A)])
        for term in [("A",), ("Zebra", A), ("AZ", "x"), ("Z9",), ("f", ("A", A)), ("f", ("Zz",))]:
            self.fails(BadStep, fill_step, start, [("x", term)])
        for term in [TOP, PA, Q, ("f", TOP), ("f", PA), ("g", A, ("f", Q)), ("g", ("f", TOP), A)]:
            self.fails(BadStep, fill_step, start, [("x", term)])
            self.fails(BadStep, fill_step, start, (("x", A), ("w", term)))
            self.fails(BadStep, fill_step, (), [("w", term)])


class ReplaceStep(Case):
    """Point 12: replace_step."""

    def test_terms(self):
        first, second = clause((True, A, B)), clause((True, ("P", FA), TOP))
        self.gives(clause((True, ("P", FB), TOP)), replace_step, first, 0, 0, second, 0, (0, 0, 0))
        self.fails(BadStep, replace_step, first, 0, 1, second, 0, (0, 0, 0))
        other_way = clause((False, ("R", B, B), TOP))
        self.gives(clause((False, ("R", B, A), TOP)), replace_step, first, 0, 1, other_way, 0, (0, 1))

    def test_other_literals_of_both_stay(self):
        first = clause((True, A, B), (True, PA, TOP), (False, Q, TOP))
        second = clause((True, FA, C), (True, PA, TOP), (False, PB, TOP))
        self.assertEqual((first[1], second[1]), ((True, A, B), (True, C, FA)))
        expected = clause((True, FB, C), (True, PA, TOP), (False, PB, TOP), (False, Q, TOP))
        self.gives(expected, replace_step, first, 1, 0, second, 1, (1, 0))

    def test_sides_come_in_order_again(self):
        first, second = clause((True, A, C)), clause((True, A, B))
        self.gives(clause((True, B, C)), replace_step, first, 0, 0, second, 0, (0,))
        self.gives(((True, B, C),), replace_step, first, 0, 0, second, 0, (0,))

    def test_one_place_alone(self):
        first, second = clause((True, A, B)), clause((True, ("S", A, A, A), TOP))
        self.gives(clause((True, ("S", A, B, A), TOP)), replace_step, first, 0, 0, second, 0, (0, 1))

    def test_atoms(self):
        first = clause((True, PA, TOP), (True, A, B))
        self.assertEqual(first[0], (True, PA, TOP))
        second = clause((False, PA, TOP))
        self.gives(clause((True, A, B), (False, TOP, TOP)), replace_step, first, 0, 0, second, 0, (0,))
        self.gives(((False, TOP, TOP),), replace_step, first[:1], 0, 0, second, 0, (0,))
        self.gives(((True, TOP, TOP),), replace_step, first[:1], 0, 0, first[:1], 0, (0,))
        self.assertEqual(clause_text(((True, TOP, TOP),)), "true = true")
        self.assertEqual(clause_text(((False, TOP, TOP),)), "true != true")

    def test_same_clause_twice(self):
        both = clause((True, A, B), (True, PA, TOP))
        self.assertEqual(both[1], (True, A, B))
        self.gives(clause((True, B, B), (True, PA, TOP)), replace_step, both, 1, 0, both, 1, (0,))
        self.gives(clause((True, A, B), (True, PA, TOP), (True, PB, TOP)), replace_step, both, 1, 0, both, 0, (0, 0))

    def test_wrong_indexes_and_sides(self):
        first = clause((True, A, B), (False, A, C), (True, PA, TOP))
        self.assertEqual([literal[0] for literal in first], [True, False, True])
        second = clause((True, PA, TOP), (True, FA, B))
        self.assertEqual(second[1], (True, B, FA))
        self.gives(clause((True, TOP, TOP), (False, A, C), (True, A, B), (True, FA, B)),
                   replace_step, first, 0, 0, second, 0, (0,))
        for index in (-1, -2, -3, 3, 10):
            self.fails(BadStep, replace_step, first, index, 0, second, 0, (0, 0))
            self.fails(BadStep, replace_step, first, index, 0, second, 1, (1, 0))
        self.fails(BadStep, replace_step, first, 1, 0, second, 0, (0, 0))
        self.gives(clause((False, A, C), (True, PA, TOP), (True, PB, TOP), (True, FA, B)),
                   replace_step, first, 2, 0, second, 0, (0, 0))
        for side in (-1, -2, 2, 3):
            self.fails(BadStep, replace_step, first, 2, side, second, 0, (0, 0))
        self.fails(BadStep, replace_step, first, 0, 1, second, 0, (1,))
        for target in (-1, -2, 2, 5):
            self.fails(BadStep, replace_step, first, 2, 0, second, target, (0, 0))
            self.fails(BadStep, replace_step, first, 2, 0, second, target, (1, 0))

    def test_wrong_places(self):
        first, second = clause((True, A, B)), clause((True, B, FA))
        self.gives(clause((True, B, FB)), replace_step, first, 0, 0, second, 0, (1, 0))
        for place in [(), (0,), (1,), (2,), (-1,), (-1, 0), (-2, 0), (1, 1), (1, -1), (1, 0, 0), (1, 0, -1), (0, 0),
                      (2, 0), (3,), (-3,)]:
            self.fails(BadStep, replace_step, first, 0, 0, second, 0, place)
        self.fails(BadStep, replace_step, first, 0, 0, (), 0, (0,))
        self.fails(BadStep, replace_step, (), 0, 0, second, 0, (1, 0))

    def test_top_is_not_replaced(self):
        first, second = clause((True, PA, TOP)), clause((True, PB, TOP))
        self.fails(BadStep, replace_step, first, 0, 1, second, 0, (1,))
        self.fails(BadStep, replace_step, ((True, TOP, TOP),), 0, 0, second, 0, (1,))
        self.fails(BadStep, replace_step, ((True, TOP, TOP),), 0, 1, second, 0, (1,))

    def test_every_choice_for_drawn_clauses(self):
        rng = random.Random(121)
        taken = 0
        for _ in range(120):
            first, second = dense_clause(rng, 3), dense_clause(rng, 3)
            for index, side, target in itertools.product(range(len(first)), (0, 1), range(len(second))):
                sign, *sides = first[index]
                for place in [(at,) + inner for at in (0, 1) for inner in places_of(second[target][1 + at])]:
                    here = part_at(second[target][1 + place[0]], place[1:])
                    args = (first, index, side, second, target, place)
                    if not sign or sides[side] == TOP or here != sides[side]:
                        self.fails(BadStep, replace_step, *args)
                        continue
                    taken += 1
                    changed = list(second[target])
                    changed[1 + place[0]] = replace_at(changed[1 + place[0]], place[1:], sides[1 - side])
                    rest = first[:index] + first[index + 1:] + second[:target] + second[target + 1:]
                    self.gives(make_clause(rest + (make_literal(*changed),)), replace_step, *args)
        self.assertGreater(taken, 100)


class DropStep(Case):
    """Point 12: drop_step."""

    def test_dropping(self):
        start = clause((False, A, A), (True, PA, TOP), (False, "x", "x"), (True, B, B), (False, A, B))
        self.gives(clause((True, PA, TOP), (True, B, B), (False, A, B)), drop_step, start)
        self.gives((), drop_step, ((False, TOP, TOP),))
        self.gives(((True, TOP, TOP),), drop_step, ((True, TOP, TOP),))
        self.gives((), drop_step, ((False, FA, FA), (False, A, A)))

    def test_nothing_to_drop(self):
        self.gives((), drop_step, ())
        start = clause((True, A, B), (False, PA, TOP), (True, "x", "x"))
        self.gives(start, drop_step, start)


class FactorStep(Case):
    """Point 12: factor_step."""

    def test_factoring(self):
        start = clause((True, A, B), (True, A, C), (False, PA, TOP))
        self.assertEqual(start[:2], ((True, A, B), (True, A, C)))
        self.gives(clause((True, A, C), (False, B, C), (False, PA, TOP)), factor_step, start, 0, 0, 1, 0)
        self.gives(clause((True, A, B), (False, B, C), (False, PA, TOP)), factor_step, start, 1, 0, 0, 0)

    def test_sides(self):
        start = clause((True, A, B), (True, B, C))
        self.gives(clause((True, B, C), (False, A, C)), factor_step, start, 0, 1, 1, 0)
        self.gives(clause((True, A, B), (False, A, C)), factor_step, start, 1, 0, 0, 1)
        self.fails(BadStep, factor_step, start, 0, 0, 1, 0)
        self.fails(BadStep, factor_step, start, 0, 0, 1, 1)
        self.fails(BadStep, factor_step, start, 0, 1, 1, 1)

    def test_new_literal_is_in_order(self):
        start = clause((True, A, FB), (True, B, FB))
        self.assertEqual(start, ((True, A, FB), (True, B, FB)))
        self.gives(((False, A, B), (True, A, FB)), factor_step, start, 1, 1, 0, 1)
        self.gives(((False, A, B), (True, B, FB)), factor_step, start, 0, 1, 1, 1)

    def test_both_sides_alike(self):
        start = clause((True, A, A), (True, A, B))
        self.gives(clause((True, A, B), (False, A, B)), factor_step, start, 0, 1, 1, 0)
        self.gives(clause((True, A, A), (False, A, B)), factor_step, start, 1, 0, 0, 1)

    def test_wrong(self):
        start = clause((True, A, B), (True, A, C), (False, A, FA), (True, PA, TOP), (True, PB, TOP))
        self.assertEqual(start[2:], ((False, A, FA), (True, A, B), (True, A, C)))
        self.gives(clause((True, A, C), (False, B, C), (False, A, FA), (True, PA, TOP), (True, PB, TOP)),
                   factor_step, start, 3, 0, 4, 0)
        self.fails(BadStep, factor_step, start, 3, 0, 3, 0)
        self.fails(BadStep, factor_step, start, 3, 0, 3, 1)
        for index in (-1, -2, -3, 5, 7):
            self.fails(BadStep, factor_step, start, index, 0, 3, 0)
            self.fails(BadStep, factor_step, start, 3, 0, index, 0)
            self.fails(BadStep, factor_step, start, index, 0, 4, 0)
            self.fails(BadStep, factor_step, start, 4, 0, index, 0)
        for side in (-1, -2, -3, 2, 3):
            self.fails(BadStep, factor_step, start, 3, side, 4, 0)
            self.fails(BadStep, factor_step, start, 3, 0, 4, side)
        self.fails(BadStep, factor_step, start, 2, 0, 3, 0)
        self.fails(BadStep, factor_step, start, 3, 0, 2, 0)
        self.fails(BadStep, factor_step, start, 0, 1, 1, 1)
        self.fails(BadStep, factor_step, start, 0, 0, 1, 0)
        self.fails(BadStep, factor_step, (), 0, 0, 1, 0)

    def test_every_choice_for_drawn_clauses(self):
        rng = random.Random(122)
        taken = 0
        for _ in range(60):
            start = dense_clause(rng, 5)
            indexes = range(-1, len(start) + 1)
            for index, side, target, target_side in itertools.product(indexes, SIDES, indexes, SIDES):
                args = (start, index, side, target, target_side)
                right = 0 <= index < len(start) and 0 <= target < len(start) and index != target
                right = right and side in (0, 1) and target_side in (0, 1)
                right = right and start[index][0] and start[target][0]
                right = right and start[index][1 + side] == start[target][1 + target_side] != TOP
                if not right:
                    self.fails(BadStep, factor_step, *args)
                    continue
                taken += 1
                new = make_literal(False, start[index][2 - side], start[target][2 - target_side])
                self.gives(make_clause(start[:index] + start[index + 1:] + (new,)), factor_step, *args)
        self.assertGreater(taken, 30)


class EitherStep(Case):
    """Point 12: either_step."""

    def test_literals_in_any_order(self):
        for sign in (True, False):
            self.gives(clause((True, A, B), (False, A, B)), either_step, (sign, A, B))
            self.gives(clause((True, A, B), (False, A, B)), either_step, (sign, B, A))
            self.gives(clause((True, PA, TOP), (False, PA, TOP)), either_step, (sign, PA, TOP))
            self.gives(clause((True, PA, TOP), (False, PA, TOP)), either_step, (sign, TOP, PA))
            self.gives(clause((True, Q, TOP), (False, Q, TOP)), either_step, (sign, TOP, Q))
            self.gives(clause((True, "x", FA), (False, "x", FA)), either_step, (sign, "x", FA))
            for atom in [("A",), ("Zebra", A), ("AZ", "x"), ("Z9", FA)]:
                self.gives(clause((True, atom, TOP), (False, atom, TOP)), either_step, (sign, atom, TOP))
                self.fails(BadStep, either_step, (sign, atom, A))
            self.gives(((False, A, A), (True, A, A)), either_step, (sign, A, A))

    def test_drawn(self):
        rng = random.Random(123)
        for _ in range(100):
            literal = draw_literal(rng, 2)
            sign, left, right = literal
            expected = make_clause([literal, (not sign, left, right)])
            self.gives(expected, either_step, literal)
            self.gives(expected, either_step, (sign, right, left))

    def test_wrong(self):
        wrong = [(TOP, TOP), (TOP, A), (TOP, "x"), (PA, PB), (PA, PA), (PA, A), (Q, "x"), (PA, FA)]
        wrong += [(("f", TOP), A), (("f", PA), A), (("P", PA), TOP), (("P", TOP), TOP), (("R", A, ("f", Q)), TOP)]
        wrong += [(("f", TOP), TOP), (("g", A, ("f", Q)), "x")]
        for left, right in wrong:
            for sign in (True, False):
                self.fails(BadStep, either_step, (sign, left, right))
                self.fails(BadStep, either_step, (sign, right, left))


class Truth(Case):
    """Point 13: what a step makes is true where its clauses are."""

    def test_fill(self):
        rng = random.Random(131)
        for _ in range(150):
            start, world = draw_clause(rng, 3, 1), draw_world(rng, rng.randint(1, 3))
            pairs = [(name, draw_term(rng, 1, ("u", "x"))) for name in ("x", "y")]
            result = self.call(fill_step, start, pairs)
            for values in all_values(world, [result, ((True, "u", "x"), (True, "z", "z"))]):
                inner = {"z": values["z"]}
                inner.update({name: term_value(world, term, values) for name, term in pairs})
                self.assertEqual(true_at(world, start, inner), true_at(world, result, values))

    def test_replace(self):
        rng = random.Random(132)
        checked = 0
        for _ in range(150):
            first, second = dense_clause(rng, 3), dense_clause(rng, 3)
            world = draw_world(rng, rng.randint(1, 3))
            for index, side, target in itertools.product(range(len(first)), (0, 1), range(len(second))):
                for place in [(at,) + inner for at in (0, 1) for inner in places_of(second[target][1 + at])]:
                    try:
                        result = replace_step(first, index, side, second, target, place)
                    except BadStep:
                        continue
                    checked += 1
                    for values in all_values(world, [first, second]):
                        if true_at(world, first, values) and true_at(world, second, values):
                            self.assertTrue(true_at(world, result, values))
        self.assertGreater(checked, 100)

    def test_drop_factor_and_either(self):
        rng = random.Random(133)
        factors = 0
        for _ in range(300):
            start, world = dense_clause(rng, 5), draw_world(rng, rng.randint(1, 3))
            results = [drop_step(start)]
            choices = itertools.product(range(len(start)), (0, 1), range(len(start)), (0, 1))
            for choice in choices:
                try:
                    results.append(factor_step(start, *choice))
                    factors += 1
                except BadStep:
                    pass
            for values in all_values(world, [start]):
                if true_at(world, start, values):
                    for result in results:
                        self.assertTrue(true_at(world, result, values))
            either = either_step(draw_literal(rng, 1))
            for values in all_values(world, [either]):
                self.assertTrue(true_at(world, either, values))
        self.assertGreater(factors, 30)

    def test_dropping_never_loses_truth(self):
        start = clause((False, A, A), (True, PA, TOP))
        self.gives(fill_clause(clause((True, PA, TOP)), {}), drop_step, start)
