import itertools
import random

from tests.drawing import GROUND, Case, clause, draw_order, ground_clauses, no, state, yes
from worldorpaper.books import Signature
from worldorpaper.clauseorders import compare_clauses, compare_literals
from worldorpaper.clauses import always_true, make_clause, make_literal
from worldorpaper.inferring import (covered, factors, head_of, is_saturated, join, needless, simpler, simplify)
from worldorpaper.orders import Order, plain_order
from worldorpaper.steps import drop_step, factor_step, replace_step
from worldorpaper.terms import TOP, part_at, places_of

A, B, C, FA, FB, FFA = ("a",), ("b",), ("c",), ("f", ("a",)), ("f", ("b",)), ("f", ("f", ("a",)))
Q, PA, PB = ("Q",), ("P", ("a",)), ("P", ("b",))
PLAIN = plain_order(GROUND)


def index_of(one, literal):
    return one.index(literal)


def plain_head(order, one):
    for index, literal in enumerate(one):
        if all(compare_literals(order, literal, other) >= 0 for other in one):
            compared = order.compare(literal[1], literal[2])
            return None if compared == 0 else (index, 0 if compared == 1 else 1)
    return None


def plain_join(order, first, second):
    """Point 76 as it stands."""
    mine, yours = plain_head(order, first), plain_head(order, second)
    if mine is None or yours is None or not first[mine[0]][0]:
        return None
    if compare_literals(order, first[mine[0]], second[yours[0]]) >= 0:
        return None
    side, whole = first[mine[0]][1 + mine[1]], second[yours[0]][1 + yours[1]]
    for place in places_of(whole):
        if part_at(whole, place) == side:
            return mine + (yours[0], (yours[1],) + place)
    return None


def plain_factors(order, one):
    head = plain_head(order, one)
    if head is None or not one[head[0]][0]:
        return []
    side = one[head[0]][1 + head[1]]
    return [head + (target, other[1:].index(side)) for target, other in enumerate(one)
            if other[0] and target != head[0] and side in other[1:]]


def plain_needless(clauses, one):
    return always_true(one) or any(set(other) <= set(one) for other in clauses)


def plain_simpler(order, clauses, one):
    """Point 77 as it stands."""
    if any(not sign and left == right for sign, left, right in one):
        return ("drop",)
    for k, rule in enumerate(clauses):
        if len(rule) == 1 and rule[0][0] and rule[0][1] != rule[0][2] and compare_clauses(order, rule, one) < 0:
            side = 0 if order.is_greater(rule[0][1], rule[0][2]) else 1
            for target, literal in enumerate(one):
                for place in places_of(literal):
                    if place and part_at(literal, place) == rule[0][1 + side]:
                        return ("replace", k, side, target, place)
    return None


def plain_covered(order, clauses, one):
    if plain_needless(clauses, one):
        return True
    step = plain_simpler(order, clauses, one)
    return step is not None and plain_covered(order, clauses, after(clauses, one, step))


def after(clauses, one, step):
    if step == ("drop",):
        return drop_step(one)
    return replace_step(clauses[step[1]], 0, step[2], one, step[3], step[4])


def plain_saturated(order, clauses):
    for one in clauses:
        results = [drop_step(one)] + [factor_step(one, *row) for row in plain_factors(order, one)]
        for other in clauses:
            row = plain_join(order, one, other)
            if row is not None:
                results.append(replace_step(one, row[0], row[1], other, row[2], row[3]))
        if not all(plain_covered(order, clauses, result) for result in results):
            return False
    return True


class Heads(Case):
    """Point 76."""

    def test_written_out(self):
        self.gives(None, head_of, PLAIN, ())
        self.gives((0, 1), head_of, PLAIN, clause(yes(A, B)))
        self.gives((0, 0), head_of, PLAIN, clause(yes(PA)))
        self.gives(None, head_of, PLAIN, clause(yes(B, B), yes(A, B)))
        self.gives(None, head_of, PLAIN, clause(no(B, B)))
        self.gives(None, head_of, PLAIN, clause(no(TOP, TOP)))
        one = clause(yes(A, A), yes(A, FA), no(B, B))
        self.gives((index_of(one, yes(A, FA)), 1), head_of, PLAIN, one)
        turned = Order.ranked(GROUND, PLAIN.ranking[::-1])
        self.gives((0, 0), head_of, turned, clause(no(A, B)))

    def test_drawn(self):
        rng = random.Random(1)
        for _ in range(500):
            order = draw_order(rng, GROUND)
            (one,) = ground_clauses(rng, 1, 4)
            self.gives(plain_head(order, one), head_of, order, one)


class Joins(Case):
    """Point 76."""

    def test_written_out(self):
        one, two = clause(yes(A, B)), clause(no(PB))
        self.gives((0, 1, 0, (0, 0)), join, PLAIN, one, two)
        self.gives(None, join, PLAIN, two, one)
        self.gives((0, 1, 0, (1,)), join, PLAIN, one, clause(no(A, B)))
        self.gives((0, 0, 0, (0,)), join, PLAIN, clause(yes(PA)), clause(no(PA)))
        self.gives((0, 1, 0, (0, 0)), join, PLAIN, one, clause(yes(("R", B, B))))
        self.gives((0, 1, 0, (1, 0, 0)), join, PLAIN, clause(yes(A, B)), clause(yes(A, ("g", FB, B))))

    def test_no_join(self):
        for first, second in [(clause(no(A, B)), clause(no(PB))), (clause(yes(A, B)), clause(yes(A, B))),
                              (clause(yes(A, B)), ()), ((), clause(yes(A, B))), (clause(yes(A, B)), clause(no(PA))),
                              (clause(yes(A, A)), clause(no(PA))), (clause(yes(A, B)), clause(no(B, B))),
                              (clause(yes(PA)), clause(yes(PA))), (clause(yes(A, FB)), clause(yes(A, FB), yes(FB, FB))),
                              (clause(yes(B, C)), clause(yes(A, C))), (clause(yes(A, B)), clause(yes(FA, B)))]:
            self.gives(None, join, PLAIN, first, second)

    def test_only_the_greater_side_counts(self):
        # b = f(a) has b in its lesser side alone.
        self.gives(None, join, PLAIN, clause(yes(A, B)), clause(yes(B, FFA)))
        self.gives((0, 1, 0, (1, 0)), join, PLAIN, clause(yes(A, B)), clause(yes(B, FB)))

    def test_other_literals(self):
        first = clause(yes(A, B), no(A, A), yes(A, A))
        second = clause(no(PB), yes(Q), yes(A, B))
        row = (index_of(first, yes(A, B)), 1, index_of(second, no(PB)), (0, 0))
        self.gives(row, join, PLAIN, first, second)

    def test_drawn(self):
        rng = random.Random(2)
        found = 0
        for _ in range(400):
            order = draw_order(rng, GROUND)
            clauses = ground_clauses(rng, 4, 3, "ab") + [()]
            for first, second in itertools.product(clauses, repeat=2):
                row = plain_join(order, first, second)
                self.gives(row, join, order, first, second)
                if row is not None:
                    found += 1
                    result = replace_step(first, row[0], row[1], second, row[2], row[3])
                    self.assertEqual(compare_clauses(order, result, second), -1)
        self.assertGreater(found, 300)


class Factors(Case):
    """Point 76."""

    def test_written_out(self):
        one = clause(yes(A, C), yes(B, C), no(B, B))
        index, target = index_of(one, yes(B, C)), index_of(one, yes(A, C))
        self.gives([(index, 1, target, 1)], factors, PLAIN, one)
        self.gives(clause(no(A, B), yes(A, C), no(B, B)), factor_step, one, index, 1, target, 1)
        for none in [(), clause(yes(PA)), clause(no(A, C), no(B, C)), clause(yes(A, C), no(B, C)),
                     clause(yes(A, C), yes(C, C)), clause(yes(A, B), yes(A, C)), clause(yes(PA), yes(PB)),
                     clause(yes(A, C), no(A, C))]:
            self.gives([], factors, PLAIN, none)

    def test_several_in_order(self):
        one = clause(yes(FA, FB), yes(A, FB), yes(B, FB), no(C, FA), yes(C, FA))
        head = (index_of(one, yes(FA, FB)), 1)
        others = sorted([index_of(one, yes(A, FB)), index_of(one, yes(B, FB))])
        self.gives([head + (target, 1) for target in others], factors, PLAIN, one)

    def test_a_literal_with_equal_sides_is_greater(self):
        self.gives([], factors, PLAIN, clause(yes(B, B), yes(A, B)))
        self.gives([], factors, PLAIN, clause(yes(B, B), no(A, B)))

    def test_drawn(self):
        rng = random.Random(3)
        found = 0
        for _ in range(1500):
            order = draw_order(rng, GROUND)
            sides = [rng.sample([A, B, C, FA], 2) for _ in range(rng.randint(1, 5))]
            one = make_clause([make_literal(rng.random() < 0.8, *pair) for pair in sides])
            rows = self.call(factors, order, one)
            self.assertEqual(state(rows), state(plain_factors(order, one)))
            for row in rows:
                found += 1
                self.assertEqual(compare_clauses(order, factor_step(one, *row), one), -1)
        self.assertGreater(found, 200)


class Needless(Case):
    """Point 77."""

    def test_written_out(self):
        one = clause(yes(PA), no(Q))
        for clauses, expected in [([], False), ([one], True), ([clause(yes(PA))], True), ([clause(no(PA))], False),
                                  ([clause(yes(PA), no(Q), yes(PB))], False), ([()], True),
                                  ([clause(yes(PB)), clause(no(Q))], True), ([clause(yes(Q))], False)]:
            self.gives(expected, needless, clauses, one)
            self.gives(expected, needless, tuple(clauses), one)
        self.gives(True, needless, [], clause(yes(A, A)))
        self.gives(True, needless, [], clause(yes(PA), no(PA)))
        self.gives(True, needless, [], clause(yes(TOP, TOP)))
        self.gives(False, needless, [], clause(no(A, A)))
        self.gives(False, needless, [one], ())
        self.gives(True, needless, [()], ())


class Simpler(Case):
    """Point 77."""

    def test_drops(self):
        for one in [clause(no(A, A)), clause(yes(PA), no(TOP, TOP)), clause(no(B, B), no(A, A), yes(A, B))]:
            self.gives(("drop",), simpler, PLAIN, [], one)
            self.gives(("drop",), simpler, PLAIN, [clause(yes(A, B)), clause(yes(PA))], one)
            self.gives(drop_step(one), simplify, [], one, ("drop",))

    def test_replacements(self):
        rules = [clause(yes(A, B))]
        one = clause(yes(PA), no(("R", A, B)), yes(A, FB))
        self.gives(("replace", 0, 1, index_of(one, yes(A, FB)), (1, 0)), simpler, PLAIN, rules, one)
        self.gives(clause(yes(PA), no(("R", A, B)), yes(A, FA)), simplify, rules, one,
                   ("replace", 0, 1, index_of(one, yes(A, FB)), (1, 0)))
        self.gives(("replace", 0, 1, 0, (1, 0)), simpler, PLAIN, tuple(rules), clause(yes(("g", B, B), C)))
        self.gives(("replace", 0, 1, 0, (0,)), simpler, PLAIN, rules, clause(yes(B, ("g", B, B))))
        self.gives(("replace", 1, 0, 0, (0,)), simpler, PLAIN, [clause(yes(Q)), clause(yes(PA))], clause(no(PA)))
        self.gives(clause(no(TOP, TOP)), simplify, [clause(yes(Q)), clause(yes(PA))], clause(no(PA)),
                   ("replace", 1, 0, 0, (0,)))

    def test_the_first_rule_counts(self):
        one = clause(no(("R", B, C)))
        self.gives(("replace", 1, 1, 0, (0, 1)), simpler, PLAIN, [(), clause(yes(A, C)), clause(yes(A, B))], one)
        self.gives(("replace", 0, 1, 0, (0, 0)), simpler, PLAIN, [clause(yes(A, B)), clause(yes(A, C))], one)

    def test_what_cannot_be_simplified(self):
        for rules, one in [([], clause(yes(PA))), ([clause(yes(A, B))], ()), ([clause(no(A, B))], clause(yes(PB))),
                           ([clause(yes(A, B), yes(Q))], clause(yes(PB))), ([clause(yes(B, B))], clause(yes(PB))),
                           ([clause(yes(TOP, TOP))], clause(yes(Q))), ([clause(yes(A, B))], clause(yes(PA))),
                           ([clause(yes(A, B))], clause(yes(A, B))), ([clause(yes(A, C))], clause(yes(A, B))),
                           ([clause(yes(B, C))], clause(yes(A, C))), ([()], clause(yes(PB)))]:
            self.gives(None, simpler, PLAIN, rules, one)

    def test_a_greater_rule(self):
        # The rule is less than the clause as soon as a greater literal stands beside.
        self.gives(None, simpler, PLAIN, [clause(yes(B, C))], clause(yes(A, C)))
        one = clause(yes(A, C), yes(Q))
        self.gives(("replace", 0, 1, index_of(one, yes(A, C)), (1,)), simpler, PLAIN, [clause(yes(B, C))], one)

    def test_drawn(self):
        rng = random.Random(4)
        counts = {"drop": 0, "replace": 0, None: 0}
        for _ in range(1200):
            order = draw_order(rng, GROUND)
            clauses = ground_clauses(rng, rng.randint(0, 4), 1) + ground_clauses(rng, 1, 2)
            one = make_clause(ground_clauses(rng, 1, 3)[0] + ((no(B, B),) if rng.random() < 0.2 else ()))
            one = () if rng.random() < 0.05 else one
            step = self.call(simpler, order, clauses, one)
            self.assertEqual(state(step), state(plain_simpler(order, clauses, one)))
            counts[None if step is None else step[0]] += 1
            if step is not None:
                result = self.call(simplify, clauses, one, step)
                self.assertEqual(state(result), state(after(clauses, one, step)))
                self.assertEqual(compare_clauses(order, result, one), -1)
        self.assertTrue(min(counts.values()) > 100, counts)


class Covered(Case):
    """Point 77."""

    def test_written_out(self):
        rules = [clause(yes(A, B)), clause(yes(PA))]
        for one, expected in [(clause(yes(PA)), True), (clause(yes(PB)), True), (clause(no(PB)), False), ((), False),
                              (clause(no(PB), yes(A, B)), True), (clause(yes(FA, FB)), True), (clause(yes(FA, A)), False),
                              (clause(no(A, A), yes(PA)), True), (clause(no(A, A)), False), (clause(no(A, B)), False),
                              (clause(no(FA, FB), no(("P", FB)), yes(("P", FA))), True)]:
            self.gives(expected, covered, PLAIN, rules, one)
            self.gives(expected, covered, PLAIN, tuple(rules), one)
        self.gives(True, covered, PLAIN, [()], clause(no(A, A)))
        self.gives(True, covered, PLAIN, [], clause(yes(A, A)))

    def test_several_steps(self):
        rules = [clause(yes(A, B)), clause(yes(A, C)), clause(yes(A, FA)), clause(yes(Q))]
        deep = A
        for _ in range(12):
            deep = ("f", deep)
        self.gives(True, covered, PLAIN, rules, clause(yes(deep, C)))
        self.gives(True, covered, PLAIN, rules, clause(no(deep, B), yes(Q)))
        self.gives(False, covered, PLAIN, rules, clause(no(deep, C)))
        # c = b is greater than c = a, so it makes nothing of it.
        self.gives(False, covered, PLAIN, [clause(yes(A, B)), clause(yes(B, C))], clause(yes(A, C)))

    def test_drawn(self):
        rng = random.Random(5)
        answers = {True: 0, False: 0}
        for _ in range(800):
            order = draw_order(rng, GROUND)
            clauses = ground_clauses(rng, rng.randint(0, 4), 1) + ground_clauses(rng, 1, 2)
            (one,) = ground_clauses(rng, 1, 2)
            expected = plain_covered(order, clauses, one)
            self.gives(expected, covered, order, clauses, one)
            answers[expected] += 1
        self.assertTrue(min(answers.values()) > 100, answers)


class Saturated(Case):
    """Point 77."""

    def test_written_out(self):
        for clauses, expected in [([], True), ([()], True), ([clause(yes(A, B))], True), ([clause(no(A, B))], True),
                                  ([clause(no(A, A))], False), ([clause(no(A, A)), ()], True),
                                  ([clause(yes(A, B)), clause(yes(PB))], False),
                                  ([clause(yes(A, B)), clause(yes(PB)), clause(yes(PA))], True),
                                  ([clause(yes(A, B)), clause(no(A, B))], False),
                                  ([clause(yes(PA)), clause(no(PA)), ()], True),
                                  ([clause(yes(A, C), yes(B, C))], False),
                                  ([clause(yes(A, C), yes(B, C)), clause(no(A, B), yes(A, C))], True),
                                  ([clause(no(A, A), yes(Q))], False), ([clause(no(A, A), yes(Q)), clause(yes(Q))], True)]:
            self.gives(expected, is_saturated, PLAIN, clauses)
            self.gives(expected, is_saturated, PLAIN, tuple(clauses))

    def test_drawn(self):
        rng = random.Random(6)
        answers = {True: 0, False: 0}
        for _ in range(800):
            order = draw_order(rng, GROUND)
            clauses = ground_clauses(rng, rng.randint(1, 4), 2)
            expected = plain_saturated(order, clauses)
            self.gives(expected, is_saturated, order, clauses)
            answers[expected] += 1
        self.assertTrue(min(answers.values()) > 100, answers)

    def test_another_signature(self):
        order = plain_order(Signature([("b", 0), ("a", 0)], [("P", 1)]))
        self.gives(True, is_saturated, order, [clause(yes(A, B)), clause(yes(PB))])
        self.gives(False, is_saturated, order, [clause(yes(A, B)), clause(yes(PA))])
