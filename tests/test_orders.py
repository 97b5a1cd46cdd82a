import itertools
import random

from tests.drawing import SIGNATURE, Case, draw_atom, draw_order, draw_term
from worldorpaper.books import Signature
from worldorpaper.errors import BadOrder
from worldorpaper.orders import Order, plain_order, sorted_terms
from worldorpaper.terms import TOP, fill_term, part_at, places_of, replace_at, unknowns_of

A, B = ("a",), ("b",)
FEW = Signature([("a", 0), ("f", 1)], [("P", 1)])
NAMES = ["a", "b", "f", "g", "h", "Q", "P", "R", "S"]


def ones(names=NAMES):
    return {name: 1 for name in names}


def occurrences(side):
    return [part_at(side, place) for place in places_of(side)]


def plain_weight(order, side):
    return sum(1 if isinstance(part, str) else order.weights.get(part[0], 0) for part in occurrences(side))


def plain_greater(order, one, other):
    """Point 69 as it stands."""
    mine, yours = occurrences(one), occurrences(other)
    if any(mine.count(name) < yours.count(name) for name in unknowns_of(other)):
        return False
    weights = plain_weight(order, one), plain_weight(order, other)
    if weights[0] > weights[1]:
        return True
    if weights[0] < weights[1] or isinstance(one, str) or isinstance(other, str) or one == other:
        return False
    if one[0] != other[0]:
        return order.ranking.index(one[0]) > order.ranking.index(other[0])
    first = next(at for at in range(1, len(one)) if one[at] != other[at])
    return plain_greater(order, one[first], other[first])


def draw_side(rng, depth, unknowns):
    kind = rng.random()
    if kind < 0.06:
        return TOP
    return draw_atom(rng, depth - 1, unknowns) if kind < 0.35 else draw_term(rng, depth, unknowns)


class Making(Case):
    """Point 67."""

    def test_attributes(self):
        weights, ranking = {"f": 9, "P": 1, "a": 4}, ["P", "a", "f"]
        order = self.call(Order, FEW, weights, ranking)
        self.assertEqual((order.weights, order.ranking), ({"f": 9, "P": 1, "a": 4}, ("P", "a", "f")))
        weights["a"] = 1
        ranking.reverse()
        self.assertEqual((order.weights, order.ranking), ({"f": 9, "P": 1, "a": 4}, ("P", "a", "f")))
        self.assertEqual((Order.LIGHTEST, Order.HEAVIEST), (1, 9))
        self.assertEqual((order.LIGHTEST, order.HEAVIEST), (1, 9))
        empty = self.call(Order, Signature([], []), {}, ())
        self.assertEqual((empty.weights, empty.ranking), ({}, ()))

    def test_weights(self):
        ranking = ("a", "f", "P")
        for weight in range(1, 10):
            for name in ranking:
                order = self.call(Order, FEW, {**ones(ranking), name: weight}, ranking)
                self.assertEqual(order.weights[name], weight)
        for weight in (0, 10, -1, -9, 100, 10 ** 30):
            for name in ranking:
                self.fails(BadOrder, Order, FEW, {**ones(ranking), name: weight}, ranking)

    def test_keys_of_weights(self):
        ranking = ("a", "f", "P")
        for weights in [{}, ones("af"), ones("fP"), ones("aP"), ones("afPb"), ones("afQ"), ones(("a", "f", "p")),
                        {**ones("afP"), "": 1}]:
            self.fails(BadOrder, Order, FEW, weights, ranking)

    def test_rankings(self):
        for ranking in itertools.permutations("afP"):
            self.assertEqual(self.call(Order, FEW, ones("afP"), list(ranking)).ranking, ranking)
            self.assertEqual(self.call(Order.ranked, FEW, list(ranking)).ranking, ranking)
        for ranking in ["", "a", "af", "aP", "fP", "aaP", "aff", "PPP", "afPb", "afPa", "afPP", "afQ", "afp", "AFP"]:
            for row in (tuple(ranking), list(ranking)):
                self.fails(BadOrder, Order, FEW, ones("afP"), row)
                self.fails(BadOrder, Order.ranked, FEW, row)

    def test_ranked(self):
        order = Order.ranked(SIGNATURE, NAMES[::-1])
        self.assertIsInstance(order, Order)
        self.assertEqual((order.weights, order.ranking), (ones(), tuple(NAMES[::-1])))

    def test_plain_order(self):
        order = self.call(plain_order, SIGNATURE)
        self.assertIsInstance(order, Order)
        self.assertEqual((order.weights, order.ranking), (ones(), tuple(NAMES)))
        turned = self.call(plain_order, Signature([("f", 1), ("a", 0)], [("R", 2), ("P", 1)]))
        self.assertEqual(turned.ranking, ("f", "a", "R", "P"))


class Weights(Case):
    """Point 68."""

    def test_weights(self):
        order = Order(SIGNATURE, dict(zip(NAMES, range(1, 10))), NAMES)
        for side, weight in [(TOP, 0), ("x", 1), (A, 1), (B, 2), (("f", "x"), 4), (("f", ("f", A)), 7), (("Q",), 6),
                             (("g", "x", "x"), 6), (("P", ("g", A, B)), 14), (("S", "x", "y", ("h", A, A, A)), 19)]:
            self.gives(weight, order.weight, side)

    def test_drawn(self):
        rng = random.Random(1)
        for _ in range(200):
            order = draw_order(rng, SIGNATURE)
            side = draw_side(rng, 3, ("x", "y"))
            self.gives(plain_weight(order, side), order.weight, side)


class Comparing(Case):
    """Point 69."""

    def ordered(self, order, one, other, expected):
        self.gives(expected, order.compare, one, other)
        self.gives(None if expected is None else -expected, order.compare, other, one)
        self.gives(expected == 1, order.is_greater, one, other)
        self.gives(expected == -1, order.is_greater, other, one)

    def test_weight_counts_most(self):
        order = Order(SIGNATURE, {**ones(), "a": 5, "b": 2}, NAMES)
        self.ordered(order, A, B, 1)
        self.ordered(order, A, ("g", B, B), -1)
        self.ordered(order, ("f", A), ("g", B, B), 1)
        self.ordered(order, ("f", ("f", B)), A, -1)

    def test_ranking_counts_next(self):
        order = Order.ranked(SIGNATURE, ["b", "S", "R", "h", "g", "P", "f", "Q", "a"])
        self.ordered(order, A, B, 1)
        self.ordered(order, ("f", B), ("P", B), 1)
        self.ordered(order, ("f", B), ("P", A), 1)
        self.ordered(order, ("f", B), ("f", A), -1)
        self.ordered(order, ("g", A, B), ("f", ("f", B)), -1)

    def test_first_arguments_that_differ(self):
        order = plain_order(SIGNATURE)
        self.ordered(order, ("g", A, B), ("g", B, A), -1)
        self.ordered(order, ("g", A, B), ("g", A, A), 1)
        self.ordered(order, ("h", A, B, A), ("h", A, A, B), 1)
        self.ordered(order, ("g", ("f", A), B), ("g", B, ("f", A)), 1)
        self.ordered(order, ("R", ("f", A), B), ("R", B, ("f", B)), 1)

    def test_top(self):
        order = plain_order(SIGNATURE)
        self.ordered(order, TOP, TOP, 0)
        for side in ("x", A, ("f", "x"), ("Q",), ("P", "x"), ("S", A, "x", "y"), ("h", "x", "x", A)):
            self.ordered(order, side, TOP, 1)

    def test_unknowns(self):
        order = Order(SIGNATURE, {**ones(), "b": 3}, NAMES)
        self.ordered(order, "x", "x", 0)
        self.ordered(order, "x", "y", None)
        self.ordered(order, "x", A, None)
        self.ordered(order, "x", B, None)
        self.ordered(order, ("f", "x"), "x", 1)
        self.ordered(order, ("f", "x"), "y", None)
        self.ordered(order, ("f", "x"), A, 1)
        self.ordered(order, ("f", "x"), B, None)
        self.ordered(order, ("f", B), "x", None)
        self.ordered(order, ("g", "x", "y"), ("g", "y", "x"), None)
        self.ordered(order, ("g", "x", "x"), ("g", "x", "y"), None)
        self.ordered(order, ("g", "x", "x"), ("f", "x"), 1)
        self.ordered(order, ("g", "x", A), ("f", ("f", "x")), 1)
        self.ordered(order, ("f", ("f", "x")), ("g", "x", "x"), -1)
        self.ordered(order, ("f", ("f", "x")), ("g", "y", "y"), None)
        self.ordered(order, ("g", ("f", "x"), "y"), ("g", "x", ("f", "y")), 1)
        self.ordered(order, ("P", ("f", "x")), ("P", "x"), 1)
        self.ordered(order, ("P", "x"), ("f", "x"), 1)
        self.ordered(order, ("P", "y"), ("f", "x"), None)

    def test_drawn(self):
        rng = random.Random(2)
        answers = {1: 0, 0: 0, -1: 0, None: 0}
        for _ in range(2500):
            order = draw_order(rng, SIGNATURE)
            one, other = [draw_side(rng, 2, ("x", "y")) for _ in range(2)]
            if rng.random() < 0.3 and one != TOP:
                place = rng.choice([place for place in places_of(one) if place] or [()])
                other = replace_at(one, place, draw_term(rng, 1, ("x", "y"))) if place else one
            up, down = plain_greater(order, one, other), plain_greater(order, other, one)
            self.assertFalse(up and down)
            expected = 0 if one == other else 1 if up else -1 if down else None
            self.ordered(order, one, other, expected)
            answers[expected] += 1
        self.assertTrue(min(answers.values()) > 50, answers)


class Consequences(Case):
    """Points 70 and 71."""

    def setUp(self):
        self.rng = random.Random(3)

    def test_a_strict_order(self):
        for _ in range(300):
            order = draw_order(self.rng, SIGNATURE)
            sides = [draw_side(self.rng, 2, self.rng.choice([(), ("x",)])) for _ in range(7)]
            for side in sides:
                self.assertFalse(order.is_greater(side, side))
            for one, two, three in itertools.permutations(sides, 3):
                if order.is_greater(one, two) and order.is_greater(two, three):
                    self.assertTrue(order.is_greater(one, three))

    def test_sides_without_unknowns(self):
        for _ in range(600):
            order = draw_order(self.rng, SIGNATURE)
            one, other = [draw_side(self.rng, 2, ()) for _ in range(2)]
            self.assertEqual(order.is_greater(one, other) + order.is_greater(other, one), one != other)

    def test_fillings_and_terms_around(self):
        seen = 0
        while seen < 400:
            order = draw_order(self.rng, SIGNATURE)
            one, other = [draw_term(self.rng, 2, ("x", "y")) for _ in range(2)]
            if order.is_greater(one, other):
                seen += 1
                filling = {name: draw_term(self.rng, 2, ("x", "y")) for name in "xy"}
                self.assertTrue(order.is_greater(fill_term(one, filling), fill_term(other, filling)))
                around = draw_side(self.rng, 3, ("x", "y"))
                places = [place for place in places_of(around) if place]
                if places:
                    place = self.rng.choice(places)
                    self.assertTrue(order.is_greater(replace_at(around, place, one), replace_at(around, place, other)))

    def test_parts(self):
        for _ in range(300):
            order = draw_order(self.rng, SIGNATURE)
            side = draw_side(self.rng, 3, ("x", "y"))
            for place in places_of(side)[1:]:
                self.assertTrue(order.is_greater(side, part_at(side, place)))
            self.assertEqual(order.is_greater(side, TOP), side != TOP)

    def test_finitely_many_are_less(self):
        order = Order(FEW, {"a": 2, "f": 1, "P": 3}, ("f", "a", "P"))
        terms = [A]
        while len(terms) < 12:
            terms.append(("f", terms[-1]))
        limit = ("P", ("f", A))
        self.assertEqual([term for term in terms if order.is_greater(limit, term)], terms[:5])


class Sorting(Case):
    """Point 71."""

    def test_written_out(self):
        order = plain_order(SIGNATURE)
        expected = [TOP, A, B, ("Q",), ("f", A), ("f", B), ("P", A), ("f", ("f", A)), ("g", A, A)]
        for sides in itertools.islice(itertools.permutations(expected), 0, None, 5003):
            self.gives(expected, sorted_terms, order, sides)
            self.gives(expected, sorted_terms, order, list(sides) + list(sides[::2]))
        self.gives([], sorted_terms, order, [])
        self.gives([A], sorted_terms, order, (A, A, A))

    def test_drawn(self):
        rng = random.Random(4)
        for _ in range(200):
            order = draw_order(rng, SIGNATURE)
            sides = [draw_side(rng, 2, ()) for _ in range(rng.randint(0, 14))]
            found = self.call(sorted_terms, order, sides)
            self.assertTrue(all(order.is_greater(later, one) for one, later in itertools.pairwise(found)))
            self.assertEqual(set(found), set(sides))

    def test_deep_terms(self):
        order = plain_order(SIGNATURE)
        rows = []
        for last in (B, A):
            term = last
            for _ in range(25):
                term = ("f", term)
            rows.append(term)
        self.gives(rows[::-1], sorted_terms, order, rows)
