import itertools
import random

from tests.drawing import SIGNATURE, Case, clause, no, yes
from tests.test_fillings import FLAT, SMALL, plain_terms
from worldorpaper.books import Signature
from worldorpaper.levels import ClosedTerms, FurtherRows, Levels
from worldorpaper.numbering import Sides

A, B, X, Y = ("a",), ("b",), "x", "y"
WIDE = Signature([(name, 0) for name in "abcd"] + [("f", 3), ("g", 3), ("h", 2)], [])


class Rows(Case):
    def test_drawn(self):
        rng = random.Random(1)
        for _ in range(200):
            length, count, lesser = rng.randint(0, 3), rng.randint(0, 5), rng.randint(-1, 5)
            rows = FurtherRows(length, count, lesser)
            expected = [row for row in itertools.product(range(count), repeat=length) if max(row, default=-1) >= lesser]
            self.assertEqual([rows.following() for _ in range(len(expected) + 2)], expected + [None, None])

    def test_many_rows(self):
        rows = FurtherRows(3, 10 ** 30, 10 ** 9)
        self.assertEqual([rows.following() for _ in range(2)], [(0, 0, 10 ** 9), (0, 0, 10 ** 9 + 1)])


class Terms(Case):
    """Point 137."""

    def test_depths(self):
        for signature, depth in [(SIGNATURE, 1), (SMALL, 4), (FLAT, 3), (Signature([("g", 2), ("a", 0)], []), 3),
                                 (Signature([("f", 1)], []), 2)]:
            sides = Sides()
            terms = ClosedTerms(signature, sides)
            for at in range(depth + 1):
                if at > 0:
                    terms.deepen()
                expected = plain_terms(signature, at)
                self.assertEqual(terms.count, len(expected))
                self.assertEqual(terms.lesser, len(plain_terms(signature, at - 1)) if at > 0 else -1)
                self.assertEqual([sides.listed[terms.at(index)] for index in range(terms.count)], expected)

    def test_terms_are_made_when_they_are_asked_for(self):
        sides = Sides()
        terms = ClosedTerms(WIDE, sides)
        terms.deepen()
        self.assertEqual((terms.count, len(sides.listed)), (4 + 2 * 64 + 16, 5))
        self.assertEqual(sides.listed[terms.at(5)], ("f", A, A, B))
        self.assertEqual(len(sides.listed), 7)
        terms.deepen()
        self.assertEqual(terms.count, 4 + 2 * 148 ** 3 + 148 ** 2)
        self.assertEqual(sides.listed[terms.at(148)], ("f", A, A, ("f", A, A, A)))
        self.assertLess(len(sides.listed), 200)


class LevelsOfTerms(Case):
    """The levels of point 138, also those that a road does not reach."""

    def taken(self, signature, clauses, most):
        sides = Sides()
        levels = Levels(signature, sides, clauses)
        found = []
        for _ in range(most):
            filling = levels.following()
            found.append(filling and (filling[0], [sides.listed[number] for number in filling[1]]))
        return found

    def test_levels_that_end(self):
        clauses = [clause(yes(("P", X))), clause(no(A, B)), clause(yes(("R", Y, X)))]
        rows = [(0, [B]), (0, [A]), (1, []), (2, [B, B]), (2, [B, A]), (2, [A, B]), (2, [A, A])]
        self.assertEqual(self.taken(FLAT, clauses, 9), rows + [None, None])
        # Without unknowns deeper terms make no further fillings.
        self.assertEqual(self.taken(SMALL, [clause(no(A, B)), ()], 4), [(0, []), (1, []), None, None])
        self.assertEqual(self.taken(SMALL, [], 2), [None, None])

    def test_levels_without_end(self):
        # What a level before has was put in, so it is not told again.
        found = self.taken(SMALL, [(), clause(yes(("P", X)))], 7)
        terms = [A, B, ("f", A), ("f", B), ("f", ("f", A)), ("f", ("f", B))]
        self.assertEqual(found, [(0, [])] + [(1, [term]) for term in terms])

    def test_as_the_point_stands(self):
        signature = Signature([("a", 0), ("f", 1), ("g", 2)], [("P", 1), ("R", 2)])
        clauses = [clause(yes(("P", X))), clause(yes(("R", X, Y))), ()]
        expected = []
        for depth in range(3):
            for index, length in enumerate((1, 2, 0)):
                for row in itertools.product(plain_terms(signature, depth), repeat=length):
                    if (index, list(row)) not in expected:
                        expected.append((index, list(row)))
        self.assertEqual(self.taken(signature, clauses, len(expected)), expected)

    def test_a_level_of_many_fillings(self):
        # The third level has more terms than can be made.
        clauses = [clause(yes(("p", X), X))]
        found = self.taken(WIDE, clauses, 4 + 2 * 64 + 16 + 50)
        self.assertEqual(found[-50], (0, [("f", A, A, ("f", A, A, A))]))
        self.assertEqual(len(found), len({str(filling) for filling in found}))
