import itertools
import random

from tests.drawing import GROUND, Case, draw_order, ground_clauses, no, yes
from worldorpaper.books import Signature
from worldorpaper.clauseorders import (compare_clauses, compare_literals, descending, greater_side, greatest_index,
                                       sorted_clauses)
from worldorpaper.clauses import make_clause, make_literal
from worldorpaper.orders import Order, plain_order
from worldorpaper.terms import TOP, places_of, replace_at

A, B, C, FA = ("a",), ("b",), ("c",), ("f", ("a",))
PLAIN = plain_order(GROUND)


def bag(order, literal):
    sides = list(literal[1:])
    if order.is_greater(sides[1], sides[0]):
        sides.reverse()
    return sides if literal[0] else [sides[0]] * 2 + [sides[1]] * 2


def compare_rows(one, two, compare):
    """Rows compared at the first index at which they differ, then by length."""
    for mine, yours in zip(one, two):
        if mine != yours:
            return compare(mine, yours)
    return (len(one) > len(two)) - (len(one) < len(two))


def plain_literals(order, one, two):
    return compare_rows(bag(order, one), bag(order, two), order.compare)


def plain_descending(order, clause):
    rest, found = list(clause), []
    while rest:
        found.append(next(one for one in rest if all(plain_literals(order, one, two) >= 0 for two in rest)))
        rest.remove(found[-1])
    return found


def plain_clauses(order, one, two):
    rows = plain_descending(order, one), plain_descending(order, two)
    return compare_rows(*rows, lambda mine, yours: plain_literals(order, mine, yours))


class Literals(Case):
    """Point 72."""

    def test_ascending_row(self):
        row = [yes(TOP, TOP), no(TOP, TOP), yes(A, A), no(A, A), yes(A, B), yes(B, B), no(A, B), no(B, B), yes(("Q",)),
               no(("Q",)), yes(FA, A), yes(FA, B), yes(FA, FA), no(FA, A), no(FA, B), no(FA, FA), yes(("P", A)),
               no(("P", A))]
        for (at, one), (place, two) in itertools.product(enumerate(row), repeat=2):
            self.gives((at > place) - (at < place), compare_literals, PLAIN, one, two)

    def test_sign_and_longer_bags(self):
        self.gives(1, compare_literals, PLAIN, no(A, B), yes(A, B))
        self.gives(-1, compare_literals, PLAIN, yes(A, B), no(A, B))
        self.gives(0, compare_literals, PLAIN, no(A, B), no(B, A))
        self.gives(1, compare_literals, PLAIN, no(A, A), yes(A, A))
        self.gives(1, compare_literals, PLAIN, no(B, A), yes(B, B))
        self.gives(-1, compare_literals, PLAIN, no(B, A), yes(C, A))

    def test_drawn(self):
        rng = random.Random(1)
        answers = {1: 0, 0: 0, -1: 0}
        for _ in range(1500):
            order = draw_order(rng, GROUND)
            (one,), (two,) = ground_clauses(rng, 2, 1)
            if rng.random() < 0.3:
                two = make_literal(rng.random() < 0.5, one[1], rng.choice([one[2], two[2]]))
            expected = plain_literals(order, one, two)
            self.gives(expected, compare_literals, order, one, two)
            answers[expected] += 1
        self.assertTrue(min(answers.values()) > 50, answers)

    def test_greater_side(self):
        for left, right, expected in [(A, B, 1), (A, FA, 1), (FA, A, 0), (B, A, 0), (A, A, None),
                                      (("P", A), TOP, 0), (TOP, TOP, None), (("Q",), TOP, 0)]:
            for sign in (True, False):
                self.gives(expected, greater_side, PLAIN, (sign, left, right))
        turned = Order.ranked(GROUND, PLAIN.ranking[::-1])
        self.gives(0, greater_side, turned, yes(A, B))
        self.gives(1, greater_side, turned, yes(A, FA))

    def test_by_position_alone(self):
        for function in (compare_literals, compare_clauses):
            with self.assertRaises(TypeError):
                function(PLAIN, one=yes(A), two=yes(A))
            with self.assertRaises(TypeError):
                function(order=PLAIN, one=(), two=())


class Clauses(Case):
    """Points 73 and 74."""

    def test_written_out(self):
        p, q, s = yes(("P", A)), yes(("Q",)), yes(A, B)
        row = [(), (s,), (no(A, B),), make_clause([no(A, B), s]), (q,), make_clause([q, s]), make_clause([q, no(A, B)]),
               (no(("Q",)),), (p,), make_clause([p, s]), make_clause([p, q]), make_clause([p, q, s]), (no(("P", A)),),
               make_clause([no(("P", A)), p])]
        for (at, one), (place, two) in itertools.product(enumerate(row), repeat=2):
            self.gives((at > place) - (at < place), compare_clauses, PLAIN, one, two)
        for shift in range(len(row)):
            self.gives(row, sorted_clauses, PLAIN, row[shift:] + row[:shift])
        self.gives(row, sorted_clauses, PLAIN, tuple(row[::-1] + row[::2]))
        self.gives([], sorted_clauses, PLAIN, [])
        self.gives([()], sorted_clauses, PLAIN, [(), ()])

    def test_descending(self):
        p, q, s = yes(("P", A)), yes(("Q",)), yes(A, B)
        self.gives([], descending, PLAIN, ())
        self.gives([p, q, no(A, B), s], descending, PLAIN, make_clause([s, p, no(A, B), q]))
        self.gives([no(A, B), s], descending, PLAIN, make_clause([s, no(A, B)]))
        self.gives([no(("Q",)), q], descending, PLAIN, make_clause([q, no(("Q",))]))

    def test_greatest_index(self):
        self.gives(None, greatest_index, PLAIN, ())
        self.gives(0, greatest_index, PLAIN, (yes(A, B),))
        clause = make_clause([yes(A, C), yes(("P", A)), no(A, B), yes(("P", C)), no(("Q",))])
        self.gives(clause.index(yes(("P", C))), greatest_index, PLAIN, clause)
        turned = Order.ranked(GROUND, PLAIN.ranking[::-1])
        self.gives(clause.index(yes(("P", A))), greatest_index, turned, clause)

    def test_drawn(self):
        rng = random.Random(2)
        answers = {1: 0, 0: 0, -1: 0}
        for _ in range(500):
            order = draw_order(rng, GROUND)
            clauses = ground_clauses(rng, 4, 4, "ab") + [()]
            for one, two in itertools.product(clauses[:3], clauses):
                if rng.random() < 0.3:
                    two = make_clause(rng.sample(one, rng.randint(0, len(one))))
                expected = plain_clauses(order, one, two)
                self.gives(expected, compare_clauses, order, one, two)
                answers[expected] += 1
            rows = plain_descending(order, clauses[0])
            self.gives(rows, descending, order, clauses[0])
            self.gives(clauses[0].index(rows[0]), greatest_index, order, clauses[0])
            found = self.call(sorted_clauses, order, clauses + clauses[1:3])
            self.assertEqual(set(found), set(clauses))
            self.assertTrue(all(plain_clauses(order, one, two) < 0 for one, two in itertools.pairwise(found)))
        self.assertTrue(min(answers.values()) > 100, answers)

    def test_lesser_sides_and_clauses(self):
        rng = random.Random(3)
        for _ in range(400):
            order = draw_order(rng, GROUND)
            clause, others = ground_clauses(rng, 2, 4)
            literal = rng.choice(clause)
            for place in places_of(literal)[1:]:
                for side in (A, B, ("f", B), TOP):
                    if len(place) == 1 and order.is_greater(literal[1 + place[0]], side):
                        less = make_literal(*replace_at(literal, place, side))
                        self.gives(-1, compare_literals, order, less, literal)
            rest = [one for one in clause if one != literal]
            self.gives(-1, compare_clauses, order, make_clause(rest), clause)
            lesser = [one for one in others if compare_literals(order, one, literal) < 0]
            self.gives(-1, compare_clauses, order, make_clause(rest + lesser), clause)

    def test_other_signatures(self):
        order = plain_order(Signature([("b", 0), ("a", 0)], []))
        self.gives(1, compare_clauses, order, (yes(A, A),), (yes(B, B),))
        self.gives([(yes(B, B),), (yes(A, B),), (yes(A, A),)], sorted_clauses, order,
                   [(yes(A, A),), (yes(A, B),), (yes(B, B),)])
