import random

from tests.drawing import SIGNATURE, UNKNOWNS, Case, draw_sentence, draw_term, state
from worldorpaper.books import Book, Signature
from worldorpaper.errors import BadArity, BadName, BadSentence, BadTerm, UnknownName
from worldorpaper.terms import TOP

A = ("a",)
Q, PA = ("holds", ("Q",)), ("holds", ("P", A))
PAIRS = ("and", "or", "implies", "iff")
# What fails in a sentence, and with which error.
FAULTS = {
    BadTerm: [("holds", ("P", "w")), ("same", A, ("f",)), ("same", "w", A), ("same", A, "w"), ("holds", ("P", TOP))],
    BadSentence: [("holds", ("Z",)), ("holds", ("P",)), ("all", "a", Q), ("some", "X", Q), ("holds", ("Z", "w"))],
}


class MakingSignatures(Case):
    """Point 8: the lists of a signature."""

    def test_lists(self):
        functions, relations = [("f", 1), ("a", 0), ("b", 0)], [("R", 3), ("Q", 0)]
        signature = self.call(Signature, functions, relations)
        self.gives((("f", 1), ("a", 0), ("b", 0)), lambda: signature.functions)
        self.gives((("R", 3), ("Q", 0)), lambda: signature.relations)
        self.assertEqual(state(self.call(Signature, tuple(functions), tuple(relations))), state(signature))
        empty = Signature([], ())
        self.gives(((), ()), lambda: (empty.functions, empty.relations))

    def test_later_changes_have_no_effect(self):
        functions, relations = [("f", 1)], [("R", 3)]
        signature = Signature(functions, relations)
        functions.append(("g", 2))
        relations.clear()
        self.gives((("f", 1),), lambda: signature.functions)
        self.gives((("R", 3),), lambda: signature.relations)
        self.gives(False, signature.has, "g")
        self.gives(True, signature.has, "R")

    def test_bad_names(self):
        for name in ["", "A", "all", "true", "iff", "1a", "a_b", "a" * 13, "f g", "\u00e9"]:
            self.fails(BadName, Signature, [(name, 0)], [])
            self.fails(BadName, Signature, [("f", 0), (name, 1)], [("P", 1)])
        for name in ["", "a", "all", "1A", "A_b", "A" * 13, "P "]:
            self.fails(BadName, Signature, [], [(name, 0)])
            self.fails(BadName, Signature, [("f", 0)], [("P", 1), (name, 1)])
        self.fails(BadName, Signature, [("f", 1), ("g", 1), ("f", 1)], [])
        self.fails(BadName, Signature, [("f", 1), ("f", 2)], [])
        self.fails(BadName, Signature, [], [("P", 0), ("P", 1)])

    def test_right_names(self):
        signature = Signature([("a" * 12, 0), ("allx", 1)], [("A" * 12, 0), ("All", 1)])
        self.gives(True, signature.has, "allx")

    def test_arities(self):
        for arity in (0, 1, 2, 3):
            self.gives(arity, Signature([("f", arity)], []).arity, "f")
            self.gives(arity, Signature([], [("P", arity)]).arity, "P")
        for arity in (-1, 4, -4, 100):
            self.fails(BadArity, Signature, [("f", arity)], [])
            self.fails(BadArity, Signature, [], [("P", arity)])
            self.fails(BadArity, Signature, [("a", 0), ("f", arity)], [("P", 1)])

    def test_order_of_errors(self):
        self.fails(BadName, Signature, [("F", 4)], [])
        self.fails(BadName, Signature, [], [("p", -1)])
        self.fails(BadArity, Signature, [("f", 4), ("F", 1)], [])
        self.fails(BadName, Signature, [("F", 1), ("f", 4)], [])
        self.fails(BadArity, Signature, [("f", 4)], [("p", 1)])
        self.fails(BadName, Signature, [("F", 1)], [("P", 4)])
        self.fails(BadArity, Signature, [], [("P", 4), ("p", 1)])
        self.fails(BadName, Signature, [], [("p", 1), ("P", 4)])
        self.fails(BadName, Signature, [("f", 1), ("f", 4)], [])
        self.fails(BadName, Signature, [], [("P", 1), ("P", 4)])


class AskingSignatures(Case):
    """Point 8: has, arity, constants and extended."""

    def test_has_and_arity(self):
        for name, arity in SIGNATURE.functions + SIGNATURE.relations:
            self.gives(True, SIGNATURE.has, name)
            self.gives(arity, SIGNATURE.arity, name)
        for name in ["", "c", "Z", "F", "p", "x", "true"]:
            self.gives(False, SIGNATURE.has, name)
            self.fails(UnknownName, SIGNATURE.arity, name)

    def test_constants(self):
        self.gives(["a", "b"], SIGNATURE.constants)
        self.gives(["z", "c"], Signature([("z", 0), ("f", 1), ("c", 0)], [("P", 0)]).constants)
        self.gives([], Signature([("f", 1)], [("P", 0)]).constants)
        SIGNATURE.constants().clear()
        self.gives(["a", "b"], SIGNATURE.constants)

    def test_extended(self):
        for functions in ([("k", 2), ("c", 0)], (("k", 2), ("c", 0))):
            longer = self.call(SIGNATURE.extended, functions)
            self.gives(SIGNATURE.functions + (("k", 2), ("c", 0)), lambda: longer.functions)
            self.gives(SIGNATURE.relations, lambda: longer.relations)
            self.gives(["a", "b", "c"], longer.constants)
        self.gives(False, SIGNATURE.has, "k")
        self.assertEqual(state(SIGNATURE.extended([])), state(SIGNATURE))

    def test_extended_badly(self):
        self.fails(BadName, SIGNATURE.extended, [("a", 1)])
        self.fails(BadName, SIGNATURE.extended, [("K", 1)])
        self.fails(BadName, SIGNATURE.extended, [("k", 1), ("k", 4)])
        self.fails(BadArity, SIGNATURE.extended, [("k", 4)])


class CheckingTerms(Case):
    """Point 8: check_term."""

    def test_fitting(self):
        for term in ["x", A, ("f", "x"), ("h", ("g", A, "y"), ("f", ("b",)), "x")]:
            self.gives(None, SIGNATURE.check_term, term, ["x", "y"])
            self.gives(None, SIGNATURE.check_term, term, ("y", "x", "z"))
        rng = random.Random(8)
        for _ in range(100):
            self.gives(None, SIGNATURE.check_term, draw_term(rng, 4), UNKNOWNS)

    def test_misfits(self):
        wrong = [("c",), ("f",), ("f", A, A), ("a", A), ("g", A), ("h", A, A), ("P", A), ("Q",), ("R", A, A), TOP]
        for term in wrong:
            self.fails(BadTerm, SIGNATURE.check_term, term, ["x"])
            self.fails(BadTerm, SIGNATURE.check_term, ("f", term), ["x"])
            self.fails(BadTerm, SIGNATURE.check_term, ("g", "x", ("g", A, term)), ["x"])
            self.fails(BadTerm, SIGNATURE.check_term, ("g", term, "x"), ["x"])

    def test_unknowns(self):
        self.fails(BadTerm, SIGNATURE.check_term, "x", [])
        self.fails(BadTerm, SIGNATURE.check_term, "x", ["y"])
        self.fails(BadTerm, SIGNATURE.check_term, ("g", "x", "y"), ["x"])
        for name in ["a", "f", "X", "P", "all", "x" * 13, "", "1"]:
            self.fails(BadTerm, SIGNATURE.check_term, name, [name])
            self.fails(BadTerm, SIGNATURE.check_term, ("f", name), ["x", name])
        self.gives(None, SIGNATURE.check_term, "x" * 12, ["x" * 12])


class CheckingDeepTerms(Case):
    """The road of fillings makes terms like these."""

    def test_deep_terms(self):
        for end, fits in ((("a",), True), ("x", True), ("y", False), (("a", "x"), False), (("k",), False)):
            term = end
            for _ in range(5000):
                term = ("f", term)
            if fits:
                self.assertIsNone(SIGNATURE.check_term(term, ["x"]))
            else:
                with self.assertRaises(BadTerm):
                    SIGNATURE.check_term(term, ["x"])


class CheckingSentences(Case):
    """Point 8: check_sentence."""

    def test_fitting(self):
        self.gives(None, SIGNATURE.check_sentence, Q)
        self.gives(None, SIGNATURE.check_sentence, ("holds", ("R", "x", A)), ["x"])
        self.gives(None, SIGNATURE.check_sentence, ("all", "x", ("some", "x", ("holds", ("P", "x")))))
        self.gives(None, SIGNATURE.check_sentence, ("all", "x", ("holds", ("R", "x", "y"))), ("y",))
        self.gives(None, SIGNATURE.check_sentence, ("all", "x", ("holds", ("R", "x", "y"))), ("y", "x"))
        rng = random.Random(9)
        for _ in range(200):
            self.gives(None, SIGNATURE.check_sentence, draw_sentence(rng, 5), UNKNOWNS)
            self.gives(None, SIGNATURE.check_sentence, draw_sentence(rng, 4, ()))

    def test_every_fault_everywhere(self):
        for error, sentences in FAULTS.items():
            for wrong in sentences:
                self.fails(error, SIGNATURE.check_sentence, wrong)
                self.fails(error, SIGNATURE.check_sentence, ("not", wrong), ["x"])
                self.fails(error, SIGNATURE.check_sentence, ("all", "x", wrong))
                self.fails(error, SIGNATURE.check_sentence, ("some", "x", ("not", wrong)))
                for word in PAIRS:
                    self.fails(error, SIGNATURE.check_sentence, (word, wrong, PA))
                    self.fails(error, SIGNATURE.check_sentence, (word, PA, wrong))

    def test_left_before_right(self):
        bad_term, bad_sentence = ("holds", ("P", "w")), ("holds", ("Z", A))
        for word in PAIRS:
            self.fails(BadTerm, SIGNATURE.check_sentence, (word, bad_term, bad_sentence))
            self.fails(BadSentence, SIGNATURE.check_sentence, (word, bad_sentence, bad_term))

    def test_relation_before_terms(self):
        for atom in [("Z", "w"), ("P", "w", "w"), ("P",), ("f", "w"), ("a",), ("R", "w"), TOP]:
            self.fails(BadSentence, SIGNATURE.check_sentence, ("holds", atom))
        self.fails(BadTerm, SIGNATURE.check_sentence, ("holds", ("P", "w")))

    def test_binders(self):
        for name in ["a", "f", "P", "X", "", "all", "true", "x" * 13, "1x"]:
            for word in ("all", "some"):
                self.fails(BadSentence, SIGNATURE.check_sentence, (word, name, Q))
                self.fails(BadSentence, SIGNATURE.check_sentence, (word, name, ("holds", ("P", "w"))))
        self.fails(BadTerm, SIGNATURE.check_sentence, ("all", "x", ("and", ("holds", ("P", "w")), ("all", "a", Q))))

    def test_functions_with_the_names_of_words(self):
        signature = Signature([("holds", 1), ("same", 2), ("a", 0)], [("P", 1)])
        term = ("holds", ("same", "x", A))
        for basic in [("holds", ("P", term)), ("same", term, ("same", term, term))]:
            self.gives(None, signature.check_sentence, ("all", "x", basic))
            self.fails(BadTerm, signature.check_sentence, ("all", "y", basic))
            self.fails(BadSentence, signature.check_sentence, ("all", "same", basic))
        self.fails(BadTerm, signature.check_sentence, ("same", ("holds", A, A), A))
        self.fails(BadTerm, signature.check_sentence, ("holds", ("P", ("same", A))))

    def test_binding_ends(self):
        px = ("holds", ("P", "x"))
        self.fails(BadTerm, SIGNATURE.check_sentence, ("and", ("all", "x", px), px))
        self.fails(BadTerm, SIGNATURE.check_sentence, ("all", "y", px))
        self.fails(BadTerm, SIGNATURE.check_sentence, px)
        self.gives(None, SIGNATURE.check_sentence, ("and", ("all", "x", px), px), ["x"])


class Books(Case):
    """Point 8: books."""

    def test_sentences(self):
        sentences = [Q, PA, Q]
        book = self.call(Book, SIGNATURE, sentences)
        self.assertIs(book.signature, SIGNATURE)
        self.gives((Q, PA, Q), lambda: book.sentences)
        sentences.append(PA)
        self.gives((Q, PA, Q), lambda: book.sentences)
        self.gives((), lambda: Book(SIGNATURE, []).sentences)
        self.gives((Q,), lambda: Book(SIGNATURE, (Q,)).sentences)

    def test_first_failing_sentence(self):
        bad_term, bad_sentence = ("holds", ("P", "x")), ("all", "a", Q)
        self.fails(BadTerm, Book, SIGNATURE, [Q, bad_term, bad_sentence])
        self.fails(BadSentence, Book, SIGNATURE, [Q, bad_sentence, bad_term])
        self.fails(BadTerm, Book, SIGNATURE, [("same", "x", A)])

    def test_with_sentence(self):
        book = Book(SIGNATURE, [Q])
        longer = self.call(book.with_sentence, PA)
        self.gives((Q, PA), lambda: longer.sentences)
        self.assertEqual(state(longer.signature), state(SIGNATURE))
        self.gives((Q,), lambda: book.sentences)
        self.fails(BadTerm, book.with_sentence, ("holds", ("P", "x")))
        self.fails(BadSentence, book.with_sentence, ("holds", ("P",)))

    def test_without(self):
        book = Book(SIGNATURE, [Q, PA, Q])
        self.gives((PA, Q), lambda: self.call(book.without, 0).sentences)
        self.gives((Q, Q), lambda: self.call(book.without, 1).sentences)
        self.gives((Q, PA), lambda: self.call(book.without, 2).sentences)
        self.gives((), lambda: Book(SIGNATURE, [Q]).without(0).sentences)
        self.gives((Q, PA, Q), lambda: book.sentences)
        self.assertEqual(state(book.without(1).signature), state(SIGNATURE))

    def test_forty_and_more_sentences(self):
        rng = random.Random(99)
        sentences = [draw_sentence(rng, 3, ()) for _ in range(45)]
        self.gives(tuple(sentences), lambda: Book(SIGNATURE, sentences).sentences)
