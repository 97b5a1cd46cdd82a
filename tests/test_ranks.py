import random

from tests.drawing import GROUND, Case, clause, draw_order, ground_clauses, no, yes
from tests.test_numbering import times
from worldorpaper.clauses import make_clause
from worldorpaper.orders import Order, plain_order
from worldorpaper.ranks import RankedClause, Ranks, SortedSides
from worldorpaper.terms import TOP

A, B, C = ("a",), ("b",), ("c",)


def sides_of(clauses):
    return [TOP] + [side for one in clauses for literal in one for side in literal[1:]]


class Sides(Case):
    """Points 68 and 69."""

    def test_as_the_order(self):
        rng = random.Random(1)
        for _ in range(60):
            order = draw_order(rng, GROUND)
            ranks = Ranks(order)
            sides = sides_of(ground_clauses(rng, 8, 3))
            for one in sides:
                for other in sides:
                    less = ranks.is_less(ranks.sides.number_of(one), ranks.sides.number_of(other))
                    self.assertIs(less, order.compare(one, other) == -1)

    def test_sides_that_come_later(self):
        ranks = Ranks(Order(GROUND, {**dict.fromkeys("abcfgPQR", 1), "b": 7}, plain_order(GROUND).ranking))
        b, deep = ranks.sides.number_of(B), ranks.sides.number_of(times(5))
        self.assertIs(ranks.is_less(deep, b), True)
        self.assertIs(ranks.is_less(b, ranks.sides.number_of(times(7))), True)
        self.assertIs(ranks.is_less(ranks.sides.number_of(times(6)), b), False)

    def test_deep_sides(self):
        ranks = Ranks(plain_order(GROUND))
        numbers = [ranks.sides.number_of(times(count, term)) for count in (4000, 4001) for term in (A, B)]
        for at, one in enumerate(numbers):
            for place, other in enumerate(numbers):
                self.assertIs(ranks.is_less(one, other), at < place)

    def test_sorted(self):
        rng = random.Random(2)
        for _ in range(60):
            order = draw_order(rng, GROUND)
            ranks = Ranks(order)
            found = SortedSides(ranks)
            numbers = [ranks.sides.number_of(side) for side in sides_of(ground_clauses(rng, 6, 3))]
            found.put(numbers[:5])
            found.put(numbers)
            self.assertEqual(sorted(found.numbers), sorted(set(numbers)))
            for one, other in zip(found.numbers, found.numbers[1:]):
                self.assertIs(ranks.is_less(one, other), True)


class Clauses(Case):
    """Points 72, 73 and 76."""

    def test_parts(self):
        ranks = Ranks(plain_order(GROUND))
        number = ranks.sides.number_of
        one = ranks.ranked_clause(clause(yes(B, C), yes(A, B), no(A, A)))
        self.assertEqual((one.top, one.second, one.is_equating, one.is_rule), (number(C), number(B), True, False))
        self.assertEqual(one.head, (one.clause.index((True, number(B), number(C))), 1))
        self.assertEqual(sorted(one.beside), sorted([(True, number(A), number(B)), (False, number(A), number(A))]))
        one = ranks.ranked_clause(clause(yes(("P", A))))
        self.assertEqual((one.top, one.second, one.head, one.beside, one.is_rule),
                         (number(("P", A)), number(TOP), (0, 0), [], True))
        one = ranks.ranked_clause(clause(no(A, B)))
        self.assertEqual((one.top, one.is_equating, one.is_rule), (number(B), False, False))
        for none in ((), clause(yes(B, B), yes(A, B)), clause(no(TOP, TOP))):
            one = ranks.ranked_clause(none)
            self.assertEqual((one.head, one.top, one.is_equating, one.is_rule), (None, None, False, False))

    def test_descending(self):
        rng = random.Random(3)
        for _ in range(100):
            ranks = Ranks(draw_order(rng, GROUND))
            one = ranks.ranked_clause(make_clause(ground_clauses(rng, 1, 5)[0] + ground_clauses(rng, 1, 5)[0]))
            self.assertEqual(sorted(one.descending), sorted(one.clause))
            for greater, less in zip(one.descending, one.descending[1:]):
                self.assertIs(ranks.is_less_literal(less, greater), True)
                self.assertIs(ranks.is_less_literal(greater, less), False)

    def test_places_of_clauses(self):
        rng = random.Random(4)
        ranks = Ranks(plain_order(GROUND))
        found = []
        for one in ground_clauses(rng, 60, 3) + [()]:
            ranked = ranks.ranked_clause(one)
            found.insert(ranks.place_of_clause(found, ranked), ranked)
        for one, other in zip(found, found[1:]):
            self.assertIs(ranks.is_less_clause(other, one), False)
            self.assertIs(ranks.is_less_clause(one, other), one.clause != other.clause)
        self.assertEqual(found[0].clause, ())

    def test_numbered_clauses(self):
        ranks = Ranks(plain_order(GROUND))
        one = ranks.ranked_clause(clause(yes(A, B), no(("Q",))))
        self.assertEqual(vars(RankedClause(ranks, one.clause)), vars(one))
