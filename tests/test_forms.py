import itertools
import random

from tests.drawing import SIGNATURE, Case, clause, draw_sentence, state
from worldorpaper.books import Book, Signature
from worldorpaper.clauses import clause_text, clause_unknowns, make_clause, make_literal
from worldorpaper.errors import BadArity, BadSentence, BadStep
from worldorpaper.forms import Form, form_of, spread
from worldorpaper.names import fresh_name
from worldorpaper.reading import read_book
from worldorpaper.sentences import free_unknowns, inner_sentences
from worldorpaper.shaping import narrowing_steps, negation_form, negation_steps, step_result
from worldorpaper.terms import TOP

A = ("a",)
P, Q, S = ("holds", ("P", "x")), ("holds", ("Q",)), ("same", "y", A)


def binders_in(sentence, words=("all", "some"), place=()):
    if sentence[0] in words:
        yield place, sentence
    for index, part in enumerate(inner_sentences(sentence)):
        yield from binders_in(part, words, place + (index,))


def plain_spread(sentence):
    """Rows of literals as point 52 tells them, with duplicates."""
    if sentence[0] == "and":
        return plain_spread(sentence[1]) + plain_spread(sentence[2])
    if sentence[0] == "or":
        return [one + other for one, other in itertools.product(plain_spread(sentence[1]), plain_spread(sentence[2]))]
    sign = sentence[0] != "not"
    basic = sentence if sign else sentence[1]
    return [[make_literal(sign, basic[1], basic[2] if basic[0] == "same" else TOP)]]


def plain_form(book):
    """Steps, chosen and matrices by points 49 to 51, with fresh_name as it stands there."""
    taken = [name for name, _ in book.signature.functions + book.signature.relations]
    taken += [part[1] for sentence in book.sentences for _, part in binders_in(sentence)]
    steps, chosen, matrices = [], [], []
    for index, now in enumerate(book.sentences):
        def note(word, place, name, after):
            steps.append((index, word, place, name, after))
            return after
        for word, place, after in negation_steps(now):
            now = note(word, place, "", after)
        for word, place, after in narrowing_steps(now):
            now = note(word, place, "", after)
        for place, _ in list(binders_in(now)):
            name = fresh_name("x", taken)
            taken.append(name)
            now = note("apart", place, name, step_result("apart", now, place, name))
        while list(binders_in(now, ("some",))):
            place, part = next(binders_in(now, ("some",)))
            name = fresh_name("w", taken)
            taken.append(name)
            chosen.append((name, tuple(free_unknowns(part)), part[1], part[2]))
            now = note("choose", place, name, step_result("choose", now, place, name))
        while list(binders_in(now)):
            place = next(binders_in(now))[0]
            now = note("free", place, "", step_result("free", now, place))
        matrices.append(now)
    return steps, chosen, matrices


def draw_book(rng, most, depth):
    names = ("x", "y", "z", "x1", "w1", "x3", "w2")
    while True:
        book = Book(SIGNATURE, [draw_sentence(rng, depth, (), names) for _ in range(rng.randint(0, most))])
        matrices = [negation_form(sentence) for sentence in book.sentences]
        if all(len(list(binders_in(matrix))) < 30 for matrix in matrices):
            return book


class Spread(Case):
    """Point 52."""

    def test_literals(self):
        self.gives((clause((True, ("P", "x"), TOP)),), spread, P)
        self.gives((clause((False, ("Q",), TOP)),), spread, ("not", Q))
        self.gives((clause((True, "y", A)),), spread, S)
        self.gives((clause((False, A, "y")),), spread, ("not", S))
        self.gives((((True, A, ("b",)),),), spread, ("same", ("b",), A))

    def test_pairs(self):
        p, q, s = (True, ("P", "x"), TOP), (True, ("Q",), TOP), (True, A, "y")
        self.gives((clause(p), clause(q)), spread, ("and", P, Q))
        self.gives((clause(q), clause(p)), spread, ("and", Q, P))
        self.gives((clause(p, q),), spread, ("or", Q, P))
        not_q = (False, ("Q",), TOP)
        self.gives((clause(p, s), clause(p, not_q), clause(q, s), clause(q, not_q)),
                   spread, ("or", ("and", P, Q), ("and", S, ("not", Q))))
        self.gives((clause(s, p), clause(s, q), clause(not_q)),
                   spread, ("and", ("or", S, ("and", P, Q)), ("not", Q)))

    def test_duplicates_and_clauses_that_are_always_true(self):
        p, q = (True, ("P", "x"), TOP), (True, ("Q",), TOP)
        self.gives((clause(p),), spread, ("and", P, P))
        self.gives((clause(p),), spread, ("or", P, P))
        self.gives((clause(p), clause(p, q), clause(q)), spread, ("or", ("and", P, Q), ("and", P, Q)))
        self.gives((clause(p, (False, ("P", "x"), TOP)),), spread, ("or", P, ("not", P)))
        self.gives((clause((True, A, A)),), spread, ("same", A, A))
        self.gives((clause(p, q), clause(p)), spread, ("and", ("or", P, Q), ("and", ("or", Q, P), P)))

    def test_other_parts(self):
        for part in [("implies", P, Q), ("iff", P, Q), ("all", "x", P), ("some", "x", P), ("not", ("not", P)),
                     ("not", ("and", P, Q)), ("not", ("all", "x", P))]:
            self.fails(BadSentence, spread, part)
            for pair in ("and", "or"):
                self.fails(BadSentence, spread, (pair, P, part))
                self.fails(BadSentence, spread, (pair, ("or", part, Q), P))

    def test_against_plain_rows(self):
        rng = random.Random(1)
        basic = [("holds", ("P", name)) for name in "xyz"] + [Q, S, ("same", A, "y"), ("same", "x", "x")]

        def draw(depth):
            if depth == 0 or rng.random() < 0.1:
                part = rng.choice(basic)
                return ("not", part) if rng.random() < 0.4 else part
            return (rng.choice(("and", "or")), draw(depth - 1), draw(depth - 1))

        for depth in (0, 1, 2, 3) * 25:
            sentence = draw(depth)
            self.gives(tuple(dict.fromkeys(map(make_clause, plain_spread(sentence)))), spread, sentence)

    def test_many_equal_rows(self):
        sentence = ("and", P, Q)
        for _ in range(18):
            sentence = ("or", sentence, ("and", Q, P))
        p, q = (True, ("P", "x"), TOP), (True, ("Q",), TOP)
        self.gives((clause(p, q), clause(p), clause(q)), spread, sentence)


class Forms(Case):
    """Points 49 to 54."""

    def check(self, book):
        form = self.call(Form, book)
        steps, chosen, matrices = plain_form(book)
        self.assertEqual(state(form.steps), state(tuple(steps)))
        self.assertEqual(state(form.chosen), state(tuple(chosen)))
        self.assertEqual(state(form.matrices), state(tuple(matrices)))
        rows = [(index, one) for index, matrix in enumerate(matrices) for one in spread(matrix)]
        self.assertEqual(state(form.clauses), state(tuple(one for _, one in rows)))
        self.assertEqual(state(form.origins), state(tuple(index for index, _ in rows)))
        functions = book.signature.functions + tuple((name, len(unknowns)) for name, unknowns, _, _ in chosen)
        self.assertEqual((form.signature.functions, form.signature.relations), (functions, book.signature.relations))
        self.assertEqual(state(form.book), state(book))
        self.assertEqual(state(list(form)), state(list(form.clauses)))
        return form

    def test_written_out(self):
        book = read_book("function a 0\nrelation P 1\nrelation R 2\n"
                         "sentence all x. P(x) iff some y. R(x, y)\nsentence some y. not P(y)")
        form = self.check(book)
        self.assertEqual([clause_text(one) for one in form],
                         ["R(x1, w1(x1)) or not P(x1)", "P(x3) or not R(x3, x4)", "not P(w2)"])
        self.assertEqual(form.origins, (0, 0, 1))
        self.assertEqual([row[:4] for row in form.steps], [
            (0, "iff", (0,), ""), (0, "implies", (0, 0), ""), (0, "implies", (0, 1), ""), (0, "not", (0, 1, 0), ""),
            (0, "narrow", (), ""), (0, "apart", (0,), "x1"), (0, "apart", (0, 0, 1), "x2"), (0, "apart", (1,), "x3"),
            (0, "apart", (1, 0, 0), "x4"), (0, "choose", (0, 0, 1), "w1"), (0, "free", (0,), ""),
            (0, "free", (1,), ""), (0, "free", (1, 0), ""), (1, "apart", (), "x5"), (1, "choose", (), "w2")])
        self.assertEqual([row[0] for row in form.chosen], ["w1", "w2"])
        self.assertEqual(form.chosen[0][1], ("x1",))
        self.assertEqual(form.chosen[1], ("w2", (), "x5", ("not", ("holds", ("P", "x5")))))
        self.assertEqual(form.signature.functions, (("a", 0), ("w1", 1), ("w2", 0)))

    def test_empty_book(self):
        form = self.check(Book(SIGNATURE, []))
        self.assertEqual((form.steps, form.chosen, form.matrices, form.clauses, form.origins), ((), (), (), (), ()))

    def test_drawn_books(self):
        rng = random.Random(2)
        for _ in range(120):
            book = draw_book(rng, 3, 4)
            try:
                plain_form(book)
            except BadStep:
                self.fails(BadArity, Form, book)
                continue
            form = self.check(book)
            for first, second in itertools.combinations(range(len(form.clauses)), 2):
                if form.origins[first] != form.origins[second]:
                    shared = set(clause_unknowns(form.clauses[first])) & set(clause_unknowns(form.clauses[second]))
                    self.assertFalse(shared)

    def test_names_that_are_taken(self):
        signature = Signature([("x1", 0), ("w2", 1)], [("P", 1), ("R", 2)])
        part = ("all", "x", ("some", "x3", ("holds", ("R", "x", "x3"))))
        book = Book(signature, [part, ("some", "w1", ("holds", ("P", "w1"))), part])
        form = self.check(book)
        self.assertEqual([row[3] for row in form.steps if row[1] == "apart"], ["x2", "x4", "x5", "x6", "x7"])
        self.assertEqual([row[0] for row in form.chosen], ["w3", "w4", "w5"])

    def test_equal_clauses(self):
        book = Book(SIGNATURE, [Q, Q, ("and", Q, Q), ("all", "x", ("holds", ("P", "x")))] * 2)
        form = self.check(book)
        self.assertEqual(form.origins, (0, 1, 2, 3, 4, 5, 6, 7))
        self.assertEqual(form.clauses[0], form.clauses[1])

    def test_hidden_and_repeated_binders(self):
        inner = ("all", "x", ("some", "x", ("all", "x", P)))
        self.check(Book(SIGNATURE, [inner, ("and", inner, ("not", inner)), ("all", "x", ("and", P, ("some", "x", P)))]))

    def test_three_arguments(self):
        signature = Signature([], [("R", 2), ("S", 3)])
        body = ("or", ("holds", ("S", "x", "y", "z")), ("holds", ("R", "x", "u")))
        body = ("or", body, ("or", ("holds", ("R", "y", "u")), ("holds", ("R", "z", "u"))))
        linked = ("some", "u", ("and", ("holds", ("R", "x", "u")), ("and", ("holds", ("R", "y", "u")), body)))
        book = Book(signature, [("all", "x", ("all", "y", ("all", "z", linked)))])
        form = self.check(book)
        self.assertEqual(form.signature.functions, (("w1", 3),))

    def test_four_arguments(self):
        signature = Signature([("a", 0)], [("R", 2)])
        pairs = [("holds", ("R", name, "u")) for name in ("x", "y", "z", "v")]
        body = ("or", ("or", pairs[0], pairs[1]), ("or", pairs[2], pairs[3]))
        # An `and` of parts that all have u keeps `some u` outside.
        body = ("some", "u", ("and", ("same", "u", ("a",)), ("and", body, ("not", ("holds", ("R", "u", "u"))))))
        sentence = body
        for name in ("v", "z", "y", "x"):
            sentence = ("all", name, sentence)
        book = Book(signature, [("some", "x", ("holds", ("R", "x", "x"))), sentence])
        self.fails(BadArity, Form, book)
        self.fails(BadArity, form_of, book)
        three = ("all", "x", ("all", "y", ("all", "z", ("some", "v", body))))
        self.assertEqual(self.check(Book(signature, [three])).signature.functions, (("a", 0), ("w1", 3), ("w2", 3)))

    def test_number_of_functions(self):
        rng = random.Random(3)
        for _ in range(60):
            sentence = draw_sentence(rng, 3, ())
            try:
                form = Form(Book(SIGNATURE, [sentence]))
            except BadArity:
                continue
            shaped = negation_form(sentence)
            some = list(binders_in(shaped, ("some",)))
            self.assertLessEqual(len(form.chosen), len(some))
            if not any(list(binders_in(part, ("some",))) for _, part in binders_in(shaped, ("all",))):
                self.assertTrue(all(unknowns == () for _, unknowns, _, _ in form.chosen))

    def test_form_of(self):
        book = draw_book(random.Random(4), 3, 3)
        self.assertEqual(state(self.call(form_of, book)), state(Form(book)))
        self.assertIsInstance(form_of(book), Form)

    def test_many_names(self):
        sentence = ("all", "x", P)
        for _ in range(7):
            sentence = ("and", sentence, sentence)
        form = Form(Book(SIGNATURE, [sentence] * 8))
        self.assertEqual(len(form.clauses), 8 * 128)
        self.assertEqual(form.steps[-1][:3], (7, "free", (1,) * 7))
        self.assertEqual([row[3] for row in form.steps if row[1] == "apart"][-1], "x1024")
