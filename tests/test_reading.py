import random

from tests.drawing import SIGNATURE, UNKNOWNS, Case, draw_sentence, draw_term, state
from worldorpaper.books import Signature
from worldorpaper.errors import BadText
from worldorpaper.names import is_small_name
from worldorpaper.reading import read_book, read_sentence, read_term
from worldorpaper.scanning import scan
from worldorpaper.terms import term_text
from worldorpaper.writing import book_text, sentence_text

A, B = ("a",), ("b",)
P, Q = ("holds", ("P", "x")), ("holds", ("Q",))
WORDS = ["and", "or", "implies", "iff"]
SMALL = Signature([("a", 0)], [("P", 1), ("Q", 0), ("T", 0), ("U", 0), ("V", 0)])
T, U, V = ("holds", ("T",)), ("holds", ("U",)), ("holds", ("V",))


def first_fault(words, wanted, signature, unknowns):
    """The index of the first word that cannot stand; the number of words if the text ends too early; else None.

    A stack of what must follow takes the place of the reader's calls, so that the two are unlike.
    """
    stack = [(wanted, tuple(unknowns))]
    functions, relations = dict(signature.functions), dict(signature.relations)
    at = 0
    while stack:
        item, known = stack.pop()
        word = words[at] if at < len(words) else None
        if item == "more":
            if word in WORDS:
                stack += [("more", known), ("simple", known)]
                at += 1
            continue
        if item == "sentence":
            stack += [("more", known), ("simple", known)]
            continue
        if word is None:
            return at
        pushed = None
        if item == "term":
            if word in known:
                pushed = []
            elif word in functions:
                pushed = arguments(functions[word], known)
        elif item == "simple":
            if word == "not":
                pushed = [("simple", known)]
            elif word in ("all", "some"):
                pushed = [("name", known)]
            elif word == "(":
                pushed = [(")", known), ("sentence", known)]
            elif word in relations:
                pushed = arguments(relations[word], known)
            elif word in known:
                pushed = [("term", known), ("equal", known)]
            elif word in functions:
                pushed = [("term", known), ("equal", known)] + arguments(functions[word], known)
        elif item == "name":
            if is_small_name(word) and word not in functions:
                pushed = [("sentence", known + (word,)), (".", known)]
        elif item == "equal":
            pushed = [] if word in ("=", "!=") else None
        elif item == word:
            pushed = []
        if pushed is None:
            return at
        stack += pushed
        at += 1
    return at if at < len(words) else None


def arguments(arity, known):
    if arity == 0:
        return []
    row = [("(", known), ("term", known)] + [(",", known), ("term", known)] * (arity - 1) + [(")", known)]
    return row[::-1]


def end_of(text):
    lines = text.split("\n")
    return len(lines), len(lines[-1]) + 1


def spaced(rng, words):
    """A text of these words with spaces and line feeds drawn between them."""
    text = "".join(rng.choices(" \n", k=rng.randint(0, 1)))
    for word, following in zip(words, words[1:] + [""]):
        least = 1 if word.isalnum() and following.isalnum() else 0
        text += word + "".join(rng.choices("  \n", k=rng.randint(least, 2)))
    return text


class Readers(Case):
    def reads(self, text, wanted, signature=SIGNATURE, unknowns=()):
        """The reader takes the text or refuses it just as the stack of first_fault does."""
        reader = read_term if wanted == "term" else read_sentence
        triples = scan(text)
        fault = first_fault([word for word, _, _ in triples], wanted, signature, unknowns)
        if fault is None:
            return self.call(reader, text, signature, unknowns)
        line, column = triples[fault][1:] if fault < len(triples) else end_of(text)
        self.fails_at(line, column, reader, text, signature, unknowns)
        return None


class Terms(Readers):
    """Points 18 and 19."""

    def test_terms(self):
        self.gives(A, read_term, "a", SIGNATURE)
        self.gives("x", read_term, "x", SIGNATURE, ["x"])
        self.gives("y", read_term, " y\n", SIGNATURE, ("x", "y"))
        self.gives(("f", A), read_term, "f(a)", SIGNATURE)
        self.gives(("g", ("f", "x"), B), read_term, "g ( f\n(x ),b)", SIGNATURE, ["x"])
        self.gives(("h", A, B, ("g", "x", "x")), read_term, "h(a, b, g(x, x))", SIGNATURE, ["x"])

    def test_faults(self):
        for text, line, column in [
            ("", 1, 1), ("  ", 1, 3), ("\n", 2, 1), ("f", 1, 2), ("f ", 1, 3), ("f(", 1, 3), ("f(a", 1, 4),
            ("f(a \n ", 2, 2), ("f()", 1, 3), ("f(a,b)", 1, 4), ("g(a)", 1, 4), ("g(a,b,a)", 1, 6), ("a(", 1, 2),
            ("a()", 1, 2), ("x", 1, 1), ("f(x)", 1, 3), ("a a", 1, 3), ("f(a))", 1, 5), ("P(a)", 1, 1), ("Q", 1, 1),
            ("f(Q)", 1, 3), ("(a)", 1, 1), ("true", 1, 1), ("f a", 1, 3), ("f(a, )", 1, 4), ("g(a b)", 1, 5),
            ("g(,a)", 1, 3), ("not", 1, 1), ("a=a", 1, 2), (".", 1, 1), ("h(a,\nb,\nc)", 3, 1), ("aa", 1, 1),
        ]:
            self.fails_at(line, column, read_term, text, SIGNATURE)

    def test_unknowns(self):
        self.fails_at(1, 3, read_term, "f(z)", SIGNATURE, ["x", "y"])
        self.fails_at(1, 2, read_term, "x(a)", SIGNATURE, ["x"])
        self.fails_at(1, 1, read_term, "xy", SIGNATURE, ["x", "y"])
        self.gives("xyz", read_term, "xyz", SIGNATURE, ["xyz"])

    def test_strange_signs(self):
        self.fails_at(1, 2, read_term, "a#", SIGNATURE)
        self.fails_at(1, 4, read_term, "f(a#", SIGNATURE)
        self.fails_at(1, 3, read_term, "f(#a)", SIGNATURE)
        self.fails_at(1, 3, read_term, "f(x#", SIGNATURE)
        self.fails_at(1, 4, read_term, "f(x#", SIGNATURE, ["x"])
        self.fails_at(1, 1, read_term, "$", SIGNATURE)
        self.fails_at(2, 1, read_term, "f(a)\n!", SIGNATURE)
        self.fails_at(1, 1, read_term, "Q !", SIGNATURE)

    def test_nested_sixty_deep(self):
        self.gives("f(" * 60 + "x" + ")" * 60,
                   lambda: term_text(read_term("f(" * 60 + "x" + ")" * 60, SIGNATURE, ["x"])))
        self.fails_at(1, 121, read_term, "f(" * 60 + "y" + ")" * 60, SIGNATURE, ["x"])

    def test_drawn(self):
        rng = random.Random(19)
        for _ in range(300):
            term = draw_term(rng, 4)
            words = [word for word, _, _ in scan(term_text(term))]
            self.gives(term, read_term, spaced(rng, words), SIGNATURE, UNKNOWNS)
            self.assertEqual(self.reads(spaced(rng, words), "term", SIGNATURE, UNKNOWNS), term)

    def test_drawn_faults(self):
        rng = random.Random(191)
        for _ in range(1500):
            words = [word for word, _, _ in scan(term_text(draw_term(rng, 3)))]
            at = rng.randrange(len(words) + 1)
            new = rng.choice(["", "a", "f", "g", "x", "u", "P", "Q", "(", ")", ",", "=", "not", "all", "true"])
            words = words[:at] + ([new] if new else []) + words[at + rng.randint(0, 1):]
            self.reads(spaced(rng, words), "term", SIGNATURE, UNKNOWNS)


class SimpleSentences(Readers):
    """Point 20."""

    def test_relations(self):
        self.gives(Q, read_sentence, "Q", SIGNATURE)
        self.gives(("holds", ("P", A)), read_sentence, "P(a)", SIGNATURE)
        self.gives(("holds", ("S", A, "x", ("f", B))), read_sentence, " S(a,\nx, f(b) )", SIGNATURE, ["x"])

    def test_equations(self):
        self.gives(("same", A, B), read_sentence, "a = b", SIGNATURE)
        self.gives(("not", ("same", A, B)), read_sentence, "a!=b", SIGNATURE)
        self.gives(("same", "x", ("f", "x")), read_sentence, "x=f(x)", SIGNATURE, ["x"])
        self.gives(("not", ("not", ("same", A, B))), read_sentence, "not a != b", SIGNATURE)

    def test_not_and_brackets(self):
        self.gives(("not", Q), read_sentence, "not Q", SIGNATURE)
        self.gives(("not", ("not", Q)), read_sentence, "not not Q", SIGNATURE)
        self.gives(Q, read_sentence, "((( Q )))", SIGNATURE)
        self.gives(("not", Q), read_sentence, "(not ((Q)))", SIGNATURE)
        self.gives(("and", Q, ("same", A, B)), read_sentence, "(Q) and ((a = b))", SIGNATURE)

    def test_binders(self):
        self.gives(("all", "x", P), read_sentence, "all x. P(x)", SIGNATURE)
        self.gives(("some", "y", Q), read_sentence, "some y.Q", SIGNATURE)
        self.gives(("all", "x", ("some", "x", P)), read_sentence, "all x. some x. P(x)", SIGNATURE)
        self.gives(("all", "x", ("same", "x", "y")), read_sentence, "all x . x = y", SIGNATURE, ["y"])
        self.gives(("all", "x", P), read_sentence, "all x. P(x)", SIGNATURE, ["x"])
        self.gives(("all", "x" * 12, Q), read_sentence, "all xxxxxxxxxxxx. Q", SIGNATURE)

    def test_functions_with_the_names_of_words(self):
        signature = Signature([("holds", 1), ("same", 2), ("a", 0)], [("P", 1)])
        self.gives(("all", "x", ("holds", ("P", ("holds", ("same", "x", A))))),
                   read_sentence, "all x. P(holds(same(x, a)))", signature)
        self.gives(("same", ("holds", A), A), read_sentence, "holds(a) = a", signature)

    def test_binding_ends(self):
        self.fails_at(1, 20, read_sentence, "(all x. P(x)) or P(x)", SIGNATURE)
        self.gives(("or", ("all", "x", P), P), read_sentence, "(all x. P(x)) or P(x)", SIGNATURE, ["x"])
        self.gives(("and", ("all", "x", ("some", "x", P)), P), read_sentence,
                   "(all x. (some x. P(x))) and P(x)", SIGNATURE, ["x"])
        self.gives(("all", "x", ("and", ("some", "x", P), P)), read_sentence, "all x. (some x. P(x)) and P(x)", SIGNATURE)

    def test_names_that_cannot_be_bound(self):
        for name in ["a", "f", "P", "X", "all", "not", "true", "false", "and", "x" * 13, "1x", "(", ".", "="]:
            self.fails_at(1, 5, read_sentence, "all " + name + ". Q", SIGNATURE)
            self.fails_at(1, 6, read_sentence, "some " + name + " . Q", SIGNATURE, ["x"])

    def test_faults(self):
        for text, line, column in [
            ("", 1, 1), (" \n ", 2, 2), ("not", 1, 4), ("not \n", 2, 1), ("all", 1, 4), ("all x", 1, 6),
            ("all x.", 1, 7), ("all x Q", 1, 7), ("all x, Q", 1, 6), ("(", 1, 2), ("()", 1, 2), ("(Q", 1, 3),
            ("Q)", 1, 2), ("Q(", 1, 2), ("P", 1, 2), ("P)", 1, 2), ("P a", 1, 3), ("P(", 1, 3), ("P()", 1, 3),
            ("P(a", 1, 4), ("P(a,b)", 1, 4), ("R(a)", 1, 4), ("a", 1, 2), ("a and b = b", 1, 3), ("a = ", 1, 5),
            ("a = b = a", 1, 7), ("a != b != a", 1, 8), ("= a", 1, 1), ("x = a", 1, 1), ("a = x", 1, 5),
            ("and Q", 1, 1), ("Q and", 1, 6), ("Q and and Q", 1, 7), ("Q Q", 1, 3), ("Q not Q", 1, 3), ("true", 1, 1),
            ("false", 1, 1), ("Q and true", 1, 7), ("not (a) = b", 1, 7), ("(a) = b", 1, 3), ("a = (b)", 1, 5),
            ("P(P(a))", 1, 3), ("P(Q)", 1, 3), ("Q = a", 1, 3), ("a = Q", 1, 5), ("implies", 1, 1), ("Z", 1, 1),
            ("Z(a)", 1, 1), ("f(a", 1, 4), ("f = a", 1, 3), ("f(a) Q", 1, 6), ("some x. x", 1, 10),
            ("all x. all y. x = z", 1, 19), ("Q.", 1, 2), ("Q,", 1, 2), ("(Q,", 1, 3), ("(Q and Q", 1, 9),
            ("all x. Q) and Q", 1, 9), ("Q or\n\nQ and\n", 4, 1), ("sentence Q", 1, 1), ("q", 1, 1), ("p(a)", 1, 1),
        ]:
            self.fails_at(line, column, read_sentence, text, SIGNATURE)
        self.fails_at(1, 4, read_sentence, "P(a", Signature([("a", 0)], [("P", 1)]))

    def test_strange_signs(self):
        self.fails_at(1, 3, read_sentence, "Q #", SIGNATURE)
        self.fails_at(1, 2, read_sentence, "a! = b", SIGNATURE)
        self.fails_at(1, 3, read_sentence, "a !\n= b", SIGNATURE)
        self.fails_at(1, 7, read_sentence, "Q and #", SIGNATURE)
        self.fails_at(1, 3, read_sentence, "Q Q #", SIGNATURE)
        self.fails_at(1, 2, read_sentence, "Q\tor Q", SIGNATURE)
        self.fails_at(2, 1, read_sentence, "P(\n#a)", SIGNATURE)
        self.fails_at(1, 1, read_sentence, "#", SIGNATURE)
        self.fails_at(1, 8, read_sentence, "all x. y#", SIGNATURE)
        self.fails_at(1, 9, read_sentence, "all x. x#", SIGNATURE)
        self.fails_at(1, 5, read_sentence, "P(a)#", SIGNATURE)


class Grouping(Readers):
    """Point 21."""

    def test_ranks_of_two_words(self):
        for first_rank, first in enumerate(WORDS):
            for second_rank, second in enumerate(WORDS):
                left = first_rank < second_rank or (first == second and first != "implies")
                expected = (second, (first, Q, T), U) if left else (first, Q, (second, T, U))
                self.gives(expected, read_sentence, f"Q {first} T {second} U", SMALL)

    def test_ranks_of_three_words(self):
        for first in WORDS:
            for second in WORDS:
                for third in WORDS:
                    expected = self.climb([Q, T, U, V], [first, second, third])
                    self.gives(expected, read_sentence, f"Q {first} T {second} U {third} V", SMALL)

    def climb(self, parts, words):
        """Splits at the loosest word: the last one if it groups to the left, else the first one."""
        if not words:
            return parts[0]
        loosest = max(words, key=WORDS.index)
        places = [at for at, word in enumerate(words) if word == loosest]
        at = places[0] if loosest == "implies" else places[-1]
        return (loosest, self.climb(parts[:at + 1], words[:at]), self.climb(parts[at + 1:], words[at + 1:]))

    def test_drawn_rows_of_words(self):
        rng = random.Random(21)
        names = {"Q": Q, "T": T, "U": U, "V": V, "not Q": ("not", Q), "(T iff V)": ("iff", T, V)}
        for _ in range(300):
            chosen = [rng.choice(list(names)) for _ in range(rng.randint(1, 9))]
            words = [rng.choice(WORDS) for _ in chosen[1:]]
            text = chosen[0] + "".join(f" {word} {name}" for word, name in zip(words, chosen[1:]))
            self.gives(self.climb([names[name] for name in chosen], words), read_sentence, text, SMALL)

    def test_long_rows(self):
        self.gives(("and", ("and", Q, T), U), read_sentence, "Q and T and U", SMALL)
        self.gives(("implies", Q, ("implies", T, U)), read_sentence, "Q implies T implies U", SMALL)
        for word in WORDS:
            expected = Q
            for _ in range(50):
                expected = (word, Q, expected) if word == "implies" else (word, expected, Q)
            self.gives(expected, read_sentence, f" {word} ".join(["Q"] * 51), SMALL)

    def test_not_applies_to_the_simple_sentence(self):
        for word in WORDS:
            self.gives((word, ("not", Q), T), read_sentence, f"not Q {word} T", SMALL)
            self.gives(("not", (word, Q, T)), read_sentence, f"not (Q {word} T)", SMALL)
            self.gives(("not", ("all", "x", (word, Q, T))), read_sentence, f"not all x. Q {word} T", SMALL)

    def test_binders_reach_far(self):
        for word in WORDS:
            self.gives(("all", "x", (word, P, Q)), read_sentence, f"all x. P(x) {word} Q", SMALL)
            self.gives((word, Q, ("some", "x", (word, P, Q))), read_sentence, f"Q {word} some x. P(x) {word} Q", SMALL)
            self.gives((word, ("some", "x", P), Q), read_sentence, f"(some x. P(x)) {word} Q", SMALL)
            self.gives((word, ("not", ("all", "x", (word, P, Q))), T), read_sentence,
                       f"(not all x. P(x) {word} Q) {word} T", SMALL)
        self.gives(("and", Q, ("all", "x", ("iff", P, T))), read_sentence, "Q and all x. P(x) iff T", SMALL)

    def test_brackets_only_group(self):
        for first in WORDS:
            for second in WORDS:
                self.gives((first, Q, (second, T, U)), read_sentence, f"Q {first} (T {second} U)", SMALL)
                self.gives((second, (first, Q, T), U), read_sentence, f"(Q {first} T) {second} U", SMALL)
                self.gives((second, (first, Q, T), U), read_sentence, f"((Q) {first} ((T))) {second} (U)", SMALL)

    def test_sixty_brackets(self):
        self.gives(Q, read_sentence, "(" * 60 + "Q" + ")" * 60, SMALL)
        self.fails_at(1, 121, read_sentence, "(" * 60 + "Q" + ")" * 59, SMALL)
        self.fails_at(1, 122, read_sentence, "(" * 60 + "Q" + ")" * 61, SMALL)
        self.fails_at(1, 61, read_sentence, "(" * 60 + "y" + ")" * 60, SMALL)

    def test_the_example(self):
        expected = ("and", ("not", Q), ("all", "x", ("or", P, ("same", "x", A))))
        self.gives(expected, read_sentence, "not Q and all x. P(x) or x = a", Signature([("a", 0)], [("P", 1), ("Q", 0)]))


class DrawnSentences(Readers):
    """Points 17 to 21 together."""

    def test_any_spacing(self):
        rng = random.Random(20)
        for _ in range(200):
            sentence = draw_sentence(rng, 4)
            words = [word for word, _, _ in scan(sentence_text(sentence))]
            self.gives(sentence, read_sentence, spaced(rng, words), SIGNATURE, list(UNKNOWNS))

    def test_needless_brackets(self):
        rng = random.Random(201)

        def written(sentence):
            if sentence[0] == "not":
                text = "not " + bracketed(sentence[1])
            elif sentence[0] in ("all", "some"):
                text = f"{sentence[0]} {sentence[1]}.{written(sentence[2])}"
            elif sentence[0] in WORDS:
                text = bracketed(sentence[1]) + " " + sentence[0] + " " + bracketed(sentence[2])
            else:
                return sentence_text(sentence) if rng.random() < 0.7 else "(" + sentence_text(sentence) + ")"
            return "(" + text + ")" if rng.random() < 0.3 else text

        def bracketed(sentence):
            return "(" * rng.randint(1, 2) + written(sentence) + ")"

        checked = 0
        for _ in range(300):
            sentence = draw_sentence(rng, 4)
            text = written(sentence)
            if text.count("(") == text.count(")"):
                checked += 1
                self.gives(sentence, read_sentence, text, SIGNATURE, UNKNOWNS)
        self.assertGreater(checked, 50)

    def test_faults(self):
        rng = random.Random(202)
        faults = 0
        new_words = ["a", "f", "g", "h", "x", "y", "z", "u", "P", "Q", "R", "Z", "(", ")", ",", ".", "=", "!=", "not",
                     "all", "some", "and", "or", "implies", "iff", "true", "false", "12", "x" * 13]
        for _ in range(4000):
            words = [word for word, _, _ in scan(sentence_text(draw_sentence(rng, 3)))]
            for _ in range(rng.randint(0, 2)):
                at = rng.randrange(len(words) + 1)
                words = words[:at] + rng.choice([[], [rng.choice(new_words)]]) + words[at + rng.randint(0, 1):]
            if rng.random() < 0.3:
                words = words[:rng.randrange(len(words) + 1)]
            if self.reads(spaced(rng, words), "sentence", SIGNATURE, UNKNOWNS) is None:
                faults += 1
        self.assertGreater(faults, 1000)

    def test_strange_sign_before_and_behind_a_fault(self):
        rng = random.Random(203)
        for _ in range(500):
            words = [word for word, _, _ in scan(sentence_text(draw_sentence(rng, 3)))]
            at = rng.randrange(len(words) + 1)
            words = words[:at] + [rng.choice(["a", "P", ")", "and", "x"])] + words[at:]
            text = spaced(rng, words)
            cut = rng.randrange(len(text) + 1)
            sign = rng.choice("#!$%\t\r&*+-/:;<>?@[]^_`{|}~\"'\\")
            broken = text[:cut] + sign + text[cut:]
            if sign == "!" and text[cut:cut + 1] == "=" or text[cut - 1:cut + 1] == "!=":
                continue
            line, column = end_of(text[:cut])
            # A word that the strange sign cuts in two may fail for what is left of it.
            before = scan(text[:cut])
            earlier = first_fault([word for word, _, _ in before], "sentence", SIGNATURE, UNKNOWNS)
            if earlier is not None and earlier < len(before):
                line, column = before[earlier][1:]
            self.fails_at(line, column, read_sentence, broken, SIGNATURE, UNKNOWNS)


class Books(Case):
    """Point 27."""

    def test_books(self):
        book = read_book("function f 1\nrelation P 1\nfunction a 0\nsentence P(f(a))\nsentence all x. P(x)")
        self.gives((("f", 1), ("a", 0)), lambda: book.signature.functions)
        self.gives((("P", 1),), lambda: book.signature.relations)
        self.gives((("holds", ("P", ("f", A))), ("all", "x", P)), lambda: book.sentences)

    def test_lines_without_words_and_spaces(self):
        book = read_book("\n  \n function   a  0 \n\nrelation Q 0\n   \n  sentence   Q  \n\n sentence a=a\n\n")
        self.gives((("a", 0),), lambda: book.signature.functions)
        self.gives((("Q", 0),), lambda: book.signature.relations)
        self.gives((Q, ("same", A, A)), lambda: book.sentences)
        for text in ["", "\n", "   ", " \n \n"]:
            empty = read_book(text)
            self.gives(((), (), ()), lambda: (empty.signature.functions, empty.signature.relations, empty.sentences))

    def test_words_of_lines_as_names(self):
        book = read_book("function function 0\nfunction relation 1\nfunction sentence 0\n"
                         "sentence relation(function) = sentence")
        self.gives((("function", 0), ("relation", 1), ("sentence", 0)), lambda: book.signature.functions)
        self.gives((("same", ("relation", ("function",)), ("sentence",)),), lambda: book.sentences)

    def test_arities(self):
        book = read_book("function a 0\nfunction f 1\nfunction g 2\nfunction h 3\nrelation A 0\nrelation B 1\n"
                         "relation C 2\nrelation D 3")
        self.gives((("a", 0), ("f", 1), ("g", 2), ("h", 3)), lambda: book.signature.functions)
        self.gives((("A", 0), ("B", 1), ("C", 2), ("D", 3)), lambda: book.signature.relations)

    def test_faults_of_declarations(self):
        for text, line, column in [
            ("function", 1, 9), ("function ", 1, 10), ("function a", 1, 11), ("function a  ", 1, 13),
            ("function a\n 0", 1, 11), ("function a 4", 1, 12), ("function a 00", 1, 12), ("function a x", 1, 12),
            ("function a 10", 1, 12), ("function a -1", 1, 12), ("function A 0", 1, 10), ("function all 0", 1, 10),
            ("function true 0", 1, 10), ("function 0 0", 1, 10), ("function ( 0", 1, 10),
            ("function " + "a" * 13 + " 0", 1, 10), ("function a 0 0", 1, 14), ("function a 0 b", 1, 14),
            ("function a 0.", 1, 13), ("function a 0\nfunction a 1", 2, 10), ("relation", 1, 9), ("relation p 1", 1, 10),
            ("relation 1P 1", 1, 10), ("relation P", 1, 11), ("relation P \n", 1, 12), ("relation P 4", 1, 12),
            ("relation " + "P" * 13 + " 0", 1, 10), ("relation P 0\n\nrelation P 0", 3, 10), ("relation P 1 1", 1, 14),
            ("functions a 0", 1, 1), ("Function a 0", 1, 1), ("a", 1, 1), ("(", 1, 1), ("0", 1, 1), ("\n\n  say Q", 3, 3),
            ("function a 0\n  nothing", 2, 3), ("functiona 0", 1, 1), ("function a0", 1, 12),
        ]:
            self.fails_at(line, column, read_book, text)
        self.gives((("a" * 12, 0),), lambda: read_book("function " + "a" * 12 + " 0").signature.functions)

    def test_declarations_behind_sentences(self):
        self.fails_at(3, 1, read_book, "relation Q 0\nsentence Q\nfunction a 0")
        self.fails_at(4, 2, read_book, "relation Q 0\nsentence Q\n\n relation P 0\nsentence Q")
        self.fails_at(3, 1, read_book, "relation Q 0\nsentence Q\nfoo")
        self.fails_at(2, 10, read_book, "relation Q 0\nsentence P\nfunction a 0")

    def test_faults_of_sentences(self):
        start = "function a 0\nrelation P 1\nrelation Q 0\n"
        for text, line, column in [
            ("sentence", 4, 9), ("sentence  ", 4, 11), ("sentence\n Q", 4, 9), ("sentence  \nsentence Q", 4, 11),
            ("sentence x = a", 4, 10), ("sentence P(a", 4, 13), ("sentence P(a \n)", 4, 14), ("sentence Q Q", 4, 12),
            ("sentence Q and", 4, 15), ("sentence Q and \nQ", 4, 16), ("sentence Q)", 4, 11), ("sentence Z", 4, 10),
            ("sentence Q\nsentence\nsentence Q", 5, 9), ("sentence all a. Q", 4, 14), ("sentence sentence Q", 4, 10),
            ("sentence Q sentence Q", 4, 12), ("sentenceQ", 4, 1), ("sentence.Q", 4, 9),
            ("sentence Q\nsentence P(b)", 5, 12),
        ]:
            self.fails_at(line, column, read_book, start + text)
        self.fails_at(1, 10, read_book, "sentence Q\nrelation Q 0")

    def test_strange_signs(self):
        for text, line, column in [
            ("#", 1, 1), ("  #", 1, 3), ("function #", 1, 10), ("function a#0", 1, 11), ("function a 0#", 1, 13),
            ("function a 0 !", 1, 14), ("function A 0 #", 1, 10), ("relation Q 0\n\n\t", 3, 1),
            ("relation Q 0\nsentence Q #", 2, 12), ("relation Q 0\nsentence R #", 2, 10), ("foo #", 1, 1),
            ("relation Q 0\nfoo\n#", 2, 1), ("relation Q 0\r", 1, 13), ("function # b", 1, 10), ("# function a 0", 1, 1),
            ("relation Q 0\nsentence Q\n#", 3, 1), ("relation Q 0\nsentence Q or !", 2, 15), ("function a $", 1, 12),
        ]:
            self.fails_at(line, column, read_book, text)

    def test_drawn_books_with_spaces(self):
        rng = random.Random(271)
        for _ in range(40):
            sentences = [draw_sentence(rng, 3, ()) for _ in range(rng.randint(1, 5))]
            lines = ["function a 0", "relation Q 0", "function b 0", "function f 1", "relation P 1", "function g 2",
                     "relation R 2", "relation S 3", "function h 3"]
            lines += ["sentence " + sentence_text(sentence) for sentence in sentences]
            text = "\n".join(rng.choice(["", " ", "\n", "  \n"]) + line.replace(" ", "  ") + " " for line in lines)
            book = self.call(read_book, text)
            self.gives(tuple(sentences), lambda: book.sentences)
            self.assertEqual(state(book.signature), state(SIGNATURE))
            cut = rng.randrange(len(text))
            try:
                read_book(text[:cut])
            except BadText as error:
                lines = text[:cut].split("\n")
                words = scan(lines[-1])
                ends_early = (len(lines), len(lines[-1]) + 1)
                last_word = (len(lines), words[-1][2]) if words else None
                self.assertIn((error.line, error.column), (ends_early, last_word))

    def test_reading_back(self):
        text = "function a 0\nrelation P 1\nsentence not P(a)\nsentence all x. (P(x) implies x != a)"
        self.gives(text, lambda: book_text(read_book(text)))
