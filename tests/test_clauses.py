import itertools
import random

from tests.drawing import Case, draw_clause, draw_literal, draw_term
from worldorpaper.clauses import (
    always_true, clause_text, clause_unknowns, fill_clause, is_ground, literal_text, make_clause, make_literal,
    opposite,
)
from worldorpaper.terms import TOP, fill_term, term_text

A, B = ("a",), ("b",)
P = ("P", "x")


class Literals(Case):
    """Point 10."""

    def test_top_goes_to_the_right(self):
        for sign in (True, False):
            self.gives((sign, P, TOP), make_literal, sign, P, TOP)
            self.gives((sign, P, TOP), make_literal, sign, TOP, P)
            self.gives((sign, ("Z",), TOP), make_literal, sign, TOP, ("Z",))
            self.gives((sign, TOP, TOP), make_literal, sign, TOP, TOP)

    def test_lesser_text_goes_to_the_left(self):
        pairs = [(A, B), (A, "x"), ("x", "y"), (("f", A), ("f", B)), (A, ("a1",)), (("a10",), ("a9",))]
        pairs += [(("f", "x"), ("f1",)), (("fX",), ("fa",)), (("a1",), ("aA",)), (("g", A, "x"), ("g", A, "y"))]
        pairs += [(("f", A), ("f", A, B)), (("zz",), ("zzz",))]
        for less, greater in pairs:
            for sign in (True, False):
                self.gives((sign, less, greater), make_literal, sign, less, greater)
                self.gives((sign, less, greater), make_literal, sign, greater, less)

    def test_equal_sides(self):
        self.gives((True, A, A), make_literal, True, A, A)
        self.gives((False, "x", "x"), make_literal, False, "x", "x")

    def test_drawn_literals(self):
        rng = random.Random(10)
        for _ in range(300):
            left, right = draw_term(rng, 2), draw_term(rng, 2)
            literal = self.call(make_literal, True, left, right)
            self.assertEqual(list(literal[1:]), sorted([left, right], key=term_text))
            self.gives(literal, make_literal, True, right, left)

    def test_texts(self):
        self.gives("P(x)", literal_text, (True, P, TOP))
        self.gives("not P(x)", literal_text, (False, P, TOP))
        self.gives("Q", literal_text, (True, ("Q",), TOP))
        self.gives("not Q", literal_text, (False, ("Q",), TOP))
        self.gives("a = f(x)", literal_text, (True, A, ("f", "x")))
        self.gives("a != f(x)", literal_text, (False, A, ("f", "x")))
        self.gives("true = true", literal_text, (True, TOP, TOP))
        self.gives("true != true", literal_text, (False, TOP, TOP))

    def test_opposite(self):
        self.gives((False, P, TOP), opposite, (True, P, TOP))
        self.gives((True, A, B), opposite, (False, A, B))


class Clauses(Case):
    """Point 11."""

    def test_sorted_by_texts_without_duplicates(self):
        p, not_p = (True, P, TOP), (False, P, TOP)
        same, unlike = (True, A, B), (False, A, B)
        expected = (p, unlike, same, not_p)
        self.assertEqual([literal_text(literal) for literal in expected], ["P(x)", "a != b", "a = b", "not P(x)"])
        for row in itertools.permutations(expected):
            self.gives(expected, make_clause, list(row))
            self.gives(expected, make_clause, row + row[:2])
        self.gives((p,), make_clause, [p, p, p])

    def test_empty_clause(self):
        self.gives((), make_clause, [])
        self.gives((), make_clause, ())
        self.gives("false", clause_text, ())
        self.gives([], clause_unknowns, ())
        self.gives(True, is_ground, ())
        self.gives(False, always_true, ())
        self.gives((), fill_clause, (), {"x": A})

    def test_drawn_clauses(self):
        rng = random.Random(11)
        for _ in range(200):
            literals = [draw_literal(rng, 1) for _ in range(rng.randint(0, 7))]
            clause = self.call(make_clause, literals)
            texts = [literal_text(literal) for literal in clause]
            self.assertEqual(texts, sorted(set(texts)))
            self.assertEqual(set(clause), set(literals))
            rng.shuffle(literals)
            self.gives(clause, make_clause, tuple(literals))

    def test_later_changes_have_no_effect(self):
        literals = [(True, P, TOP)]
        clause = make_clause(literals)
        literals.append((True, A, B))
        self.assertEqual(clause, ((True, P, TOP),))

    def test_text(self):
        self.gives("P(x)", clause_text, ((True, P, TOP),))
        self.gives("P(x) or a != b or not Q", clause_text, ((True, P, TOP), (False, A, B), (False, ("Q",), TOP)))

    def test_unknowns(self):
        clause = ((True, ("P", "z"), TOP), (True, ("f", "y"), "x"), (False, ("P", "w"), TOP))
        self.gives(["z", "y", "x", "w"], clause_unknowns, clause)
        self.gives(["y", "x"], clause_unknowns, ((True, ("g", "y", "x"), ("h", "x", "y", "x")),))
        self.gives([], clause_unknowns, ((True, A, B), (True, ("Q",), TOP)))
        clause_unknowns(clause).clear()
        self.gives(["z", "y", "x", "w"], clause_unknowns, clause)

    def test_ground(self):
        self.gives(True, is_ground, ((True, A, B), (False, ("P", A), TOP)))
        self.gives(False, is_ground, ((True, A, B), (False, ("P", "x"), TOP)))
        self.gives(False, is_ground, ((True, A, ("f", "x")),))

    def test_always_true(self):
        p = (True, P, TOP)
        self.gives(True, always_true, ((True, A, A),))
        self.gives(True, always_true, (p, (True, "x", "x")))
        self.gives(True, always_true, ((True, TOP, TOP),))
        self.gives(True, always_true, (p, (True, A, B), opposite(p)))
        self.gives(True, always_true, ((False, A, B), (True, A, B)))
        self.gives(False, always_true, ((False, A, A),))
        self.gives(False, always_true, ((False, TOP, TOP),))
        self.gives(False, always_true, (p, (True, A, B)))
        self.gives(False, always_true, ((True, A, B), (False, A, ("f", B))))
        self.gives(False, always_true, ((True, ("P", "x"), TOP), (False, ("P", "y"), TOP)))

    def test_filling(self):
        clause = make_clause([(True, "x", "y"), (False, ("P", "x"), TOP), (False, ("P", "y"), TOP)])
        self.gives(make_clause([(True, A, A), (False, ("P", A), TOP)]), fill_clause, clause, {"x": A, "y": A})
        self.gives(((True, A, "x"),), fill_clause, ((True, "x", "y"),), {"y": A})
        self.gives(((True, "x", "y"),), fill_clause, ((True, "x", "y"),), {"x": "y", "y": "x"})
        self.gives(((True, ("P", B), TOP), (False, ("P", A), TOP)), fill_clause,
                   ((True, ("P", "y"), TOP), (False, ("P", "x"), TOP)), {"x": A, "y": B})

    def test_filling_sorts_again(self):
        clause = ((True, ("P", "x"), TOP), (True, ("P", "y"), TOP))
        self.gives(((True, ("P", A), TOP), (True, ("P", B), TOP)), fill_clause, clause, {"x": B, "y": A})

    def test_drawn_fillings(self):
        rng = random.Random(12)
        for _ in range(200):
            clause = draw_clause(rng, 4, 2)
            filling = {"x": draw_term(rng, 1), "y": draw_term(rng, 1)}
            expected = make_clause([
                make_literal(sign, fill_term(left, filling), fill_term(right, filling)) for sign, left, right in clause
            ])
            self.gives(expected, fill_clause, clause, filling)
