from tests.drawing import SIGNATURE, Case, clause, no, yes
from tests.test_trees import BARE, EXAMPLE, TREE, TWO, drawn_trees
from worldorpaper.books import Signature
from worldorpaper.growing import grow
from worldorpaper.lines import cut_lines, given_used, judge_lines
from worldorpaper.terms import unknowns_of
from worldorpaper.treelines import lines_of
from worldorpaper.trees import clauses_used, cut_tree, judge_tree

A, B, X, Y, Z = ("a",), ("b",), "x", "y", "z"
FX, FY, FA = ("f", "x"), ("f", "y"), ("f", ("a",))
G = Signature([("a", 0), ("g", 2), ("h", 3)], [("R", 2), ("Q", 0)])


class Lines(Case):
    """Points 108 to 112."""

    def shows(self, signature, clauses, tree):
        """The paper of a closed tree, of which all is asked that point 112 promises."""
        rows = self.call(lines_of, signature, clauses, tree)
        self.assertIsInstance(rows, list)
        self.assertTrue(judge_lines(signature, clauses, rows), clauses)
        self.assertEqual(cut_lines(rows), rows)
        self.assertLessEqual(set(given_used(rows)), set(clauses_used(tree)))
        return rows

    def closes(self, signature, clauses, limit, **more):
        grower = grow(signature, clauses, limit, **more)
        self.assertEqual(judge_tree(signature, clauses, limit, grower.tree), "closed")
        return self.shows(signature, clauses, grower.tree)

    def test_the_example(self):
        rows = self.shows(TWO, EXAMPLE, TREE)
        self.assertEqual(given_used(rows), [0, 1])
        self.shows(TWO, tuple(EXAMPLE), TREE)

    def test_a_leaf_at_the_root(self):
        self.shows(TWO, [()], ("false", 0, ()))
        self.shows(TWO, [clause(no(A, A))], ("false", 0, ()))
        self.shows(TWO, [clause(no(X, X))], ("false", 0, (0,)))
        self.shows(Signature([], [("P", 1)]), [clause(yes(("P", X))), clause(no(X, X), no(Y, Y))], ("false", 1, (0, 0)))

    def test_the_thing_0_has_no_constant(self):
        clauses = [clause(yes(("P", X))), clause(no(("P", X)))]
        rows = self.closes(BARE, clauses, 1)
        names = {name for row, _ in rows for literal in row for side in literal[1:] for name in unknowns_of(side)}
        self.assertLessEqual(names, {X, "u1"})
        # The new unknown is none of the clauses, and no name of the signature.
        for taken in ("u1", "u2"):
            clauses = [clause(yes(("P", taken))), clause(no(("P", ("f", "u1"))), no(("P", "u2")))]
            self.closes(Signature([("f", 1), ("u3", 1)], [("P", 1)]), clauses, 3)

    def test_a_constant_that_no_clause_names(self):
        # The thing 0 has no name, and the tree makes the constants things of their own.
        tree = ("cell", "b", (), (("false", 0, (0,)), ("cell", "a", (), (("false", 0, (0,)),) * 3)))
        self.shows(TWO, [clause(no(X, X))], tree)
        split = ("cell", "b", (), (("false", 0, (0, 0)), ("false", 1, (1, 0))))
        self.shows(TWO, [clause(no(X, Y), no(Y, X)), clause(yes(X, Y))], split)

    def test_things_that_are_new_at_functions(self):
        # No thing is its own f, and all are the same.
        self.closes(BARE, [clause(no(FX, X)), clause(yes(X, Y))], 2)
        self.closes(SIGNATURE, [clause(no(FX, X)), clause(no(("f", FX), X)), clause(yes(X, Y), yes(X, Z), yes(Y, Z))],
                    3)
        self.closes(G, [clause(no(("g", X, Y), X)), clause(yes(("g", X, X), A))], 4, elder_every=1)
        self.closes(G, [clause(yes(("R", X, ("h", X, A, X)))), clause(no(("R", A, Y)), no(("R", Y, Z)))], 5,
                    elder_every=1)

    def test_entries_that_are_older_things(self):
        # There are two things; f takes each to another one, and three times f is like once.
        clauses = [clause(yes(X, A), yes(X, B)), clause(no(FX, X)), clause(yes(("f", FX), FX), yes(A, B)),
                   clause(no(A, B))]
        self.closes(SIGNATURE, clauses, 3)
        clauses = [clause(yes(X, A), yes(X, B)), clause(no(FX, X)), clause(no(("f", ("f", FX)), FX))]
        self.closes(SIGNATURE, clauses, 3, picks=(1, 2))

    def test_facts(self):
        clauses = [clause(yes(("Q",)), yes(("R", A, X))), clause(no(("Q",))), clause(no(("R", Y, A)))]
        self.closes(G, clauses, 1)
        clauses = [clause(yes(("Q",))), clause(no(("Q",)))]
        self.assertLessEqual(len(self.closes(G, clauses, 1)), 6)

    def test_a_denial_that_is_not_there(self):
        # The cell Q does not matter, in either of its children.
        split = ("cell", "P", (0,), (("false", 0, ()), ("false", 1, ())))
        clauses = [clause(yes(("P", A))), clause(no(("P", A))), clause(yes(("Q",)), yes(("P", A)))]
        for tree in (("cell", "Q", (), (split, split)),
                     ("cell", "Q", (), (("cell", "P", (0,), (("false", 2, ()), ("false", 1, ()))), split)),
                     ("cell", "f", (0,), (split, split)), ("cell", "b", (),
                                                           (split, ("cell", "Q", (), (split, split))))):
            self.shows(SIGNATURE, clauses, tree)

    def test_drawn_trees(self):
        closed = 0
        for rng, signature, clauses, grower in drawn_trees(11201, 330):
            tree = grower.tree
            if grower.beyond:
                tree = cut_tree(signature, clauses, tree)
            if judge_tree(signature, clauses, grower.limit, tree) == "closed":
                closed += 1
                self.shows(signature, clauses, tree)
                self.shows(signature, clauses, cut_tree(signature, clauses, tree))
        self.assertGreater(closed, 100)

    def test_a_long_way_and_many_things(self):
        # P at a, and from each thing to its f; not seven steps on.
        term = A
        for _ in range(7):
            term = ("f", term)
        clauses = [clause(yes(("P", A))), clause(no(("P", X)), yes(("P", FX))), clause(no(("P", term)))]
        self.closes(SIGNATURE, clauses, 8)
