import random

from tests.drawing import Case, draw_atom, draw_term
from worldorpaper.errors import BadPlace
from worldorpaper.terms import (
    TOP, fill_term, is_plain, part_at, parts_of, places_of, replace_at, term_size, term_text, unknowns_of,
)

A, B = ("a",), ("b",)
TERM = ("f", A, ("g", "x", A), "x", ("h", ("g", "x", A), "y"))
PLACES = [(), (0,), (1,), (1, 0), (1, 1), (2,), (3,), (3, 0), (3, 0, 0), (3, 0, 1), (3, 1)]


def drawn():
    rng = random.Random(3)
    terms = [draw_term(rng, depth) for depth in range(5) for _ in range(30)]
    return terms + [draw_atom(rng, depth) for depth in range(4) for _ in range(20)]


def chain(depth, end):
    term = end
    for _ in range(depth):
        term = ("f", term)
    return term


class Places(Case):
    """Points 3 and 4."""

    def test_top(self):
        self.gives(("",), lambda: TOP)

    def test_written_out_places(self):
        self.gives([()], places_of, "x")
        self.gives([()], places_of, A)
        self.gives([()], places_of, ("Q",))
        self.gives([(), (0,), (1,), (1, 0)], places_of, ("R", "x", ("f", A)))
        self.gives(PLACES, places_of, TERM)

    def test_drawn_places_are_all_and_in_preorder(self):
        for term in drawn():
            places = self.call(places_of, term)
            self.assertEqual(places, sorted(places))
            self.assertEqual(len(places), len(set(places)))
            self.assertEqual(len(places), term_text(term).count(",") + term_text(term).count("(") + 1)
            for place in places:
                self.call(part_at, term, place)

    def test_part_at(self):
        self.gives(TERM, part_at, TERM, ())
        self.gives(("g", "x", A), part_at, TERM, (1,))
        self.gives("x", part_at, TERM, (1, 0))
        self.gives(A, part_at, TERM, (3, 0, 1))
        self.gives("y", part_at, TERM, (3, 1))
        self.gives("x", part_at, "x", ())
        self.gives("x", part_at, ("R", A, "x"), (1,))

    def test_replace_at(self):
        self.gives(B, replace_at, TERM, (), B)
        self.gives(("f", A, B, "x", TERM[4]), replace_at, TERM, (1,), B)
        self.gives(("f", A, ("g", "x", "z"), "x", TERM[4]), replace_at, TERM, (1, 1), "z")
        self.gives(("f", A, TERM[2], "x", ("h", ("g", ("f", "y"), A), "y")), replace_at, TERM, (3, 0, 0), ("f", "y"))
        self.gives(("R", A, B), replace_at, ("R", A, "x"), (1,), B)
        self.gives(TOP, replace_at, ("R", A, "x"), (), TOP)

    def test_drawn_replacements_change_one_place_alone(self):
        for term in drawn():
            places = places_of(term)
            for place in places:
                new = ("k", "new")
                result = self.call(replace_at, term, place, new)
                self.gives(new, part_at, result, place)
                self.assertEqual(term_size(result), term_size(term) - term_size(part_at(term, place)) + 2)
                for other in places:
                    if other[:len(place)] != place and place[:len(other)] != other:
                        self.assertEqual(part_at(result, other), part_at(term, other))
                self.gives(term, replace_at, result, place, part_at(term, place))

    def test_places_beyond(self):
        wrong = [(4,), (-1,), (-4,), (0, 0), (0, -1), (1, 2), (1, -1), (1, -2), (2, 0), (2, -1), (3, 0, 2), (3, 0, -1)]
        wrong += [(1, 0, 0), (1, 1, 0), (3, 1, 0), (-1, 0), (-5,), (100,), (4, 0)]
        for place in wrong:
            self.fails(BadPlace, part_at, TERM, place)
            self.fails(BadPlace, replace_at, TERM, place, B)
        for term in ["x", "abc", A, ("Q",), TOP]:
            for place in [(0,), (-1,), (1,), (0, 0)]:
                self.fails(BadPlace, part_at, term, place)
                self.fails(BadPlace, replace_at, term, place, B)

    def test_drawn_places_beyond(self):
        for term in drawn():
            for place in places_of(term):
                part = part_at(term, place)
                arguments = 0 if isinstance(part, str) else len(part) - 1
                for index in (arguments, -1, -arguments - 1, arguments + 5):
                    self.fails(BadPlace, part_at, term, place + (index,))
                    self.fails(BadPlace, replace_at, term, place + (index,), "x")

    def test_parts_of(self):
        self.gives([TERM, A, TERM[2], "x", TERM[4], "y"], parts_of, TERM)
        self.gives(["x"], parts_of, "x")
        self.gives([("R", A, A), A], parts_of, ("R", A, A))
        self.gives([("f", "a", A), "a", A], parts_of, ("f", "a", A))

    def test_drawn_parts(self):
        for term in drawn():
            expected = []
            for place in places_of(term):
                if part_at(term, place) not in expected:
                    expected.append(part_at(term, place))
            self.gives(expected, parts_of, term)

    def test_unknowns_of(self):
        self.gives(["x", "y"], unknowns_of, TERM)
        self.gives([], unknowns_of, ("f", A, A))
        self.gives(["x"], unknowns_of, "x")
        self.gives(["y", "x", "z"], unknowns_of, ("S", ("f", "y"), ("g", "x", "y"), ("f", "z")))
        for term in drawn():
            expected = []
            for place in places_of(term):
                part = part_at(term, place)
                if isinstance(part, str) and part not in expected:
                    expected.append(part)
            self.gives(expected, unknowns_of, term)

    def test_term_size(self):
        self.gives(1, term_size, "x")
        self.gives(1, term_size, A)
        self.gives(1, term_size, ("Q",))
        self.gives(11, term_size, TERM)
        self.gives(4, term_size, ("R", ("f", "x"), "x"))

    def test_deep_and_large_terms(self):
        for depth in (20, 60):
            deep = chain(depth, "x")
            self.gives(depth + 1, term_size, deep)
            self.gives("x", part_at, deep, (0,) * depth)
            self.gives(chain(depth, A), replace_at, deep, (0,) * depth, A)
            self.gives(chain(depth, A), fill_term, deep, {"x": A})
            self.gives("f(" * depth + "x" + ")" * depth, term_text, deep)
            self.assertEqual(len(self.call(parts_of, deep)), depth + 1)
            self.assertEqual(self.call(places_of, deep)[-1], (0,) * depth)
        full = "x"
        for _ in range(9):
            full = ("g", full, full)
        self.gives(1023, term_size, full)
        self.assertEqual(len(self.call(parts_of, full)), 10)
        self.gives(["x"], unknowns_of, full)

    def test_results_are_new(self):
        places_of(TERM).clear()
        parts_of(TERM).clear()
        unknowns_of(TERM).clear()
        self.gives(PLACES, places_of, TERM)
        self.assertEqual(len(parts_of(TERM)), 6)
        self.gives(["x", "y"], unknowns_of, TERM)


class Filling(Case):
    """Point 7 for terms."""

    def test_all_at_once(self):
        self.gives(("g", "y", "x"), fill_term, ("g", "x", "y"), {"x": "y", "y": "x"})
        self.gives(("f", ("f", "x")), fill_term, ("f", "x"), {"x": ("f", "x")})
        self.gives(("g", ("f", "y"), A), fill_term, ("g", "x", "y"), {"x": ("f", "y"), "y": A})

    def test_others_stay(self):
        self.gives("x", fill_term, "x", {})
        self.gives("x", fill_term, "x", {"y": A})
        self.gives(A, fill_term, A, {"a": B})
        self.gives(("f", "x"), fill_term, ("f", "x"), {"f": A})
        self.gives(TOP, fill_term, TOP, {"x": A})

    def test_atoms(self):
        self.gives(("R", A, ("f", A)), fill_term, ("R", "x", ("f", "x")), {"x": A})
        self.gives(("Q",), fill_term, ("Q",), {"x": A})

    def test_drawn(self):
        rng = random.Random(7)
        for term in drawn():
            filling = {name: draw_term(rng, 2) for name in ("x", "z")}
            result = self.call(fill_term, term, filling)
            size = 0
            for place in places_of(term):
                part = part_at(term, place)
                if isinstance(part, str):
                    self.assertEqual(part_at(result, place), filling.get(part, part))
                    size += term_size(filling.get(part, part))
                else:
                    self.assertEqual(part_at(result, place)[0], part[0])
                    size += 1
            self.assertEqual(term_size(result), size)


class Texts(Case):
    """Point 5."""

    def test_texts(self):
        self.gives("x", term_text, "x")
        self.gives("unknown1", term_text, "unknown1")
        self.gives("f(x1)", term_text, ("f", "x1"))
        self.gives("a", term_text, A)
        self.gives("f(x)", term_text, ("f", "x"))
        self.gives("f(a, g(x, a), x, h(g(x, a), y))", term_text, TERM)
        self.gives("Q", term_text, ("Q",))
        self.gives("R(a, f(x))", term_text, ("R", A, ("f", "x")))
        self.gives("true", term_text, TOP)


class DeeperThanCalls(Case):
    """The road of fillings makes terms like these."""

    def test_deep_terms(self):
        depth = 5000
        term = chain(depth, "x")
        self.assertEqual(term_text(term), "f(" * depth + "x" + ")" * depth)
        self.assertEqual((term_size(term), unknowns_of(term)), (depth + 1, ["x"]))
        self.assertEqual(part_at(term, (0,) * depth), "x")
        self.assertEqual(term_text(replace_at(term, (0,) * depth, A)), "f(" * depth + "a" + ")" * depth)
        self.assertIs(is_plain(term), True)
        self.assertIs(is_plain(chain(depth, ("P",))), False)
        self.fails_deep(term)

    def fails_deep(self, term):
        for place in ((0,) * 5001, (0,) * 4999 + (1,), (0,) * 4999 + (-1,)):
            with self.assertRaises(BadPlace):
                replace_at(term, place, A)
