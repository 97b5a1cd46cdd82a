import random

from tests.drawing import SIGNATURE, UNKNOWNS, Case, draw_sentence, state
from worldorpaper.books import Book, Signature
from worldorpaper.reading import read_book, read_sentence
from worldorpaper.writing import book_text, sentence_text

A = ("a",)
P, Q = ("holds", ("P", "x")), ("holds", ("Q",))
SAME = ("same", ("f", "x"), A)
ALL, SOME = ("all", "x", P), ("some", "y", Q)


class SentenceTexts(Case):
    """Point 23."""

    def test_basic(self):
        self.gives("P(x)", sentence_text, P)
        self.gives("Q", sentence_text, Q)
        self.gives("R(a, f(x))", sentence_text, ("holds", ("R", A, ("f", "x"))))
        self.gives("f(x) = a", sentence_text, SAME)

    def test_not(self):
        self.gives("f(x) != a", sentence_text, ("not", SAME))
        self.gives("not f(x) != a", sentence_text, ("not", ("not", SAME)))
        self.gives("not not f(x) != a", sentence_text, ("not", ("not", ("not", SAME))))
        self.gives("not P(x)", sentence_text, ("not", P))
        self.gives("not not P(x)", sentence_text, ("not", ("not", P)))
        self.gives("not (P(x) and Q)", sentence_text, ("not", ("and", P, Q)))
        self.gives("not all x. P(x)", sentence_text, ("not", ALL))

    def test_binders(self):
        self.gives("all x. P(x)", sentence_text, ALL)
        self.gives("some y. Q", sentence_text, SOME)
        self.gives("all x. some y. not all x. P(x)", sentence_text, ("all", "x", ("some", "y", ("not", ALL))))
        self.gives("all x. (P(x) or Q)", sentence_text, ("all", "x", ("or", P, Q)))

    def test_pairs(self):
        for word in ("and", "or", "implies", "iff"):
            self.gives(f"(P(x) {word} Q)", sentence_text, (word, P, Q))
            self.gives(f"((P(x) {word} Q) {word} (Q {word} P(x)))", sentence_text, (word, (word, P, Q), (word, Q, P)))
            self.gives(f"(f(x) = a {word} f(x) != a)", sentence_text, (word, SAME, ("not", SAME)))
            self.gives(f"(f(x) != a {word} f(x) = a)", sentence_text, (word, ("not", SAME), SAME))

    def test_binder_as_first_part(self):
        for word in ("and", "or", "implies", "iff"):
            self.gives(f"((all x. P(x)) {word} Q)", sentence_text, (word, ALL, Q))
            self.gives(f"((some y. Q) {word} all x. P(x))", sentence_text, (word, SOME, ALL))
            self.gives(f"((not all x. P(x)) {word} Q)", sentence_text, (word, ("not", ALL), Q))
            self.gives(f"((not not some y. Q) {word} Q)", sentence_text, (word, ("not", ("not", SOME)), Q))
            self.gives(f"(not P(x) {word} not all x. P(x))", sentence_text, (word, ("not", P), ("not", ALL)))
            self.gives(f"(not (Q {word} all x. P(x)) {word} Q)", sentence_text, (word, ("not", (word, Q, ALL)), Q))

    def test_the_example(self):
        example = ("or", ("all", "x", ("and", P, Q)), ("not", ("iff", Q, Q)))
        self.gives("((all x. (P(x) and Q)) or not (Q iff Q))", sentence_text, example)


class ReadingBack(Case):
    """Point 25."""

    def test_drawn(self):
        rng = random.Random(25)
        for depth in (1, 3, 5, 7):
            for _ in range(120):
                sentence = draw_sentence(rng, depth)
                self.gives(sentence, read_sentence, sentence_text(sentence), SIGNATURE, UNKNOWNS)

    def test_nested_twenty_deep(self):
        for wrap in [lambda p: ("not", p), lambda p: ("all", "x", p), lambda p: ("iff", p, Q), lambda p: ("and", Q, p),
                     lambda p: ("or", ("not", ("some", "y", p)), Q), lambda p: ("implies", ("all", "x", p), Q)]:
            sentence = SAME
            for _ in range(20):
                sentence = wrap(sentence)
            self.gives(sentence, read_sentence, sentence_text(sentence), SIGNATURE, ["x"])

    def test_a_thousand_parts(self):
        sentence = Q
        for _ in range(9):
            sentence = ("iff", sentence, sentence)
        self.gives(sentence, read_sentence, sentence_text(sentence), SIGNATURE)


class BookTexts(Case):
    """Points 26 and 27."""

    def test_lines(self):
        signature = Signature([("f", 1), ("a", 0)], [("R", 2), ("Q", 0)])
        book = Book(signature, [Q, ("all", "x", ("holds", ("R", "x", A)))])
        self.gives("function f 1\nfunction a 0\nrelation R 2\nrelation Q 0\nsentence Q\nsentence all x. R(x, a)",
                   book_text, book)
        self.gives("relation Q 0", book_text, Book(Signature([], [("Q", 0)]), []))
        self.gives("function g 3", book_text, Book(Signature([("g", 3)], []), []))
        self.gives("", book_text, Book(Signature([], []), []))

    def test_reading_back(self):
        rng = random.Random(27)
        for _ in range(30):
            book = Book(SIGNATURE, [draw_sentence(rng, 4, ()) for _ in range(rng.randint(0, 8))])
            again = read_book(self.call(book_text, book))
            self.assertEqual(state(again), state(book))
