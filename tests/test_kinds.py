import itertools
import random

from tests.drawing import Case, draw_sentence, state
from worldorpaper.books import Book, Signature
from worldorpaper.errors import NotOfKind
from worldorpaper.going import worlds_of_size
from worldorpaper.forms import form_of
from worldorpaper.growing import Grower
from worldorpaper.kinds import (enough, ground_terms, is_linked, is_prefix, is_single, kinds_of, listing, names_in,
                                told_size)
from worldorpaper.reading import read_sentence
from worldorpaper.sentences import quantifier_depth
from worldorpaper.shaping import negation_form
from worldorpaper.terms import parts_of, unknowns_of
from worldorpaper.truth import book_true

WORDS = ("listed", "prefix", "single", "linked")
SIGNATURE = Signature([("a", 0), ("b", 0), ("c", 0), ("f", 1), ("g", 2), ("h", 3)],
                      [("Q", 0), ("O", 0), ("P", 1), ("M", 1), ("R", 2), ("S", 3)])
A, B, FA = ("a",), ("b",), ("f", ("a",))


def book(*texts):
    return Book(SIGNATURE, [read_sentence(text, SIGNATURE) for text in texts])


def inside(sentence):
    """All sentences inside a sentence, with the binders around each."""
    rows = [(sentence, ())]
    for part in sentence[1:]:
        if isinstance(part, tuple) and sentence[0] not in ("holds", "same"):
            around = (sentence[0],) if sentence[0] in ("all", "some") else ()
            rows += [(other, around + binders) for other, binders in inside(part)]
    return rows


def basics(one):
    return [part for sentence in one.sentences for part, _ in inside(sentence) if part[0] in ("holds", "same")]


def terms(one):
    return [term for basic in basics(one) for side in basic[1:]
            for term in (side[1:] if basic[0] == "holds" else (side,))]


def plain_names(one):
    found = {part[0] for basic in basics(one) for side in basic[1:] for part in parts_of(side) if isinstance(part,
        tuple)}
    return [name for name, _ in one.signature.functions + one.signature.relations if name in found]


def plain_ground_terms(one):
    found = []
    for term in terms(one):
        for part in parts_of(term):
            if not unknowns_of(part) and part not in found:
                found.append(part)
    return found


def or_parts(form):
    return or_parts(form[1]) + or_parts(form[2]) if form[0] == "or" else [form]


def plain_listed(sentence):
    form = negation_form(sentence)
    if form[0] != "all":
        return None
    found = set()
    for part in or_parts(form[2]):
        if part[0] != "same":
            return None
        sides = [side for side in part[1:] if side != form[1]]
        if len(sides) != 1 or unknowns_of(sides[0]):
            return None
        found.add(repr(sides[0]))
    return len(found)


def positive(form):
    return all(part[1][0] == "holds" and len(part[1][1]) < 3 for part, _ in inside(form) if part[0] == "not")


def guarded(form):
    names = []
    while form[0] == "all":
        names.append(form[1])
        form = form[2]
    wrong = [part for part in or_parts(form) if not positive(part)]
    return any(wrong == [("not", ("holds", ("RS"[len(names) - 2],) + row))] for row in itertools.permutations(names)
               if len(names) in (2, 3) and len(set(names)) == len(names))


def plain_sizes(one):
    """Points 114 to 117 as they stand: the size of each kind of which the book is."""
    forms = [negation_form(sentence) for sentence in one.sentences]
    arity = dict(one.signature.functions + one.signature.relations)
    names = plain_names(one)
    greater = [name for name in names if name.islower() and arity[name] > 0]
    marks = [name for name in names if name[0].isupper() and arity[name] == 1]
    constants = [name for name in names if name.islower() and arity[name] == 0]
    sizes = {}
    counts = [count for count in map(plain_listed, one.sentences) if count is not None]
    if counts:
        sizes["listed"] = min(counts)
    around = [(part, binders) for form in forms for part, binders in inside(form)]
    somes = [binders for part, binders in around if part[0] == "some"]
    parts = [part for term in terms(one) for part in parts_of(term) if isinstance(part, tuple) and len(part) > 1]
    if not any("all" in binders for binders in somes) and not any(unknowns_of(part) for part in parts):
        sizes["prefix"] = max(1, len(plain_ground_terms(one)) + len(somes))
    if not greater and not any(name[0].isupper() and arity[name] > 1 for name in names):
        depth = max([quantifier_depth(sentence) for sentence in one.sentences] + [0])
        sizes["single"] = max(1, len(constants) + depth * 2 ** len(marks))
    if not greater and all(positive(form) or guarded(form) for form in forms):
        sizes["linked"] = 2 ** len(marks)
    return sizes


def draw_book(rng):
    """A book that is often of one kind or of several."""
    shape = rng.randrange(5)
    functions = SIGNATURE.functions if shape == 0 else SIGNATURE.functions[:3]
    relations = {0: SIGNATURE.relations, 1: SIGNATURE.relations[:4]}.get(shape, SIGNATURE.relations)
    small = Signature(functions, relations)
    return Book(SIGNATURE, [draw_over(rng, small) for _ in range(rng.randint(0, 3))])


def draw_over(rng, signature):
    while True:
        sentence = draw_sentence(rng, 3, (), ("x", "y", "z"))
        try:
            signature.check_sentence(sentence)
            return sentence
        except ValueError:
            pass
        if rng.random() < 0.1:
            words = rng.choice((
                "all x. x = a or b = x", "all x. (x = a or x = f(a)) or (x = b or x = a)", "not some y. y != b",
                "all x. all y. R(x, y) implies P(x) or some z. R(y, z)", "all x. some y. R(x, y) and P(y)",
                "all x. all y. all z. S(z, x, y) implies x = z", "some x. all y. R(x, y)",
                "P(f(a)) or some x. not R(x, f(a))",
            ))
            sentence = read_sentence(words, SIGNATURE)
            try:
                signature.check_sentence(sentence)
                return sentence
            except ValueError:
                pass


class Names(Case):
    """Point 113."""

    def test_names_in(self):
        self.gives([], names_in, book())
        self.gives(["a", "P"], names_in, book("P(a)"))
        self.gives(["a", "c", "g", "Q", "R"], names_in, book("all x. R(g(x, c), x)", "Q", "some a1. a1 = a"))
        # Unknowns that begin with the name of a function.
        self.gives(["b"], names_in, book("all a1. a1 = b"))
        self.gives(["b", "P"], names_in, book("all ff. P(ff)", "some c2. c2 != b"))

    def test_ground_terms(self):
        self.gives([], ground_terms, book("all x. P(x)", "Q"))
        self.gives([FA, A, B], ground_terms, book("P(f(a))", "a = b", "all x. x = f(a)"))
        self.gives([("g", FA, B), FA, A, B, ("c",)], ground_terms, book("all x. S(x, g(f(a), b), g(x, c))", "c = a"))
        self.gives([B, A], ground_terms, book("all x. not (R(x, b) iff Q) and a = x"))
        # Only terms without unknowns, also below terms with unknowns.
        self.gives([A, FA], ground_terms, book("all x. P(g(x, a))", "all x. f(a) = f(f(x))"))

    def test_drawn(self):
        rng = random.Random(11301)
        for _ in range(150):
            one = draw_book(rng)
            self.gives(plain_names(one), names_in, one)
            self.gives(plain_ground_terms(one), ground_terms, one)


class Listed(Case):
    """Point 114."""

    def test_sentences_that_list(self):
        for text, count in [("all x. x = a", 1), ("all x. a = x", 1), ("all x. x = a or b = x", 2),
                            ("all x. x = a or x = a", 1), ("all x. (x = f(a) or x = a) or (x = c or f(a) = x)", 3),
                            ("not some x. x != a and x != b", 2), ("all x. x != a implies x = b", 2),
                            ("not not all x. not not x = g(a, f(b))", 1), ("all x. not (x != a and not b = x)", 2)]:
            self.gives((0, count), listing, book(text))
            self.gives((2, count), listing, book("Q", "P(a)", text))
            self.assertIn("listed", self.call(kinds_of, book(text)))
            self.gives(count, enough, book(text), "listed")

    def test_sentences_that_do_not(self):
        for text in ["a = b", "some x. x = a", "all x. x = x", "all x. x = f(x)", "all x. x = a and x = b", "Q",
                     "all x. x = a or P(x)", "all x. x != a", "all x. a = b", "all x. x = a or a = b",
                     "all x. all y. x = a",
                     "all x. all y. x = y", "(all x. x = a) or all x. x = b", "(all x. x = a) and Q",
                     "all x. x = a implies x = b", "all x. all x. x = a", "all x. some x. x = a", "all same. a = b",
                     "all holds. P(holds)", "all same. P(same)"]:
            self.gives(None, listing, book(text))
            self.assertNotIn("listed", kinds_of(book(text)))
            self.fails(NotOfKind, enough, book(text), "listed")

    def test_the_least_and_first_one(self):
        three, two, other = "all x. x = a or x = b or x = c", "all x. x = a or x = b", "all y. y = b or y = c"
        self.gives((1, 2), listing, book(three, two, other))
        self.gives((1, 2), listing, book(three, other, two))
        self.gives((2, 2), listing, book("Q", three, other, two))
        self.gives((0, 3), listing, book(three, "Q"))
        self.gives(None, listing, book())


class Single(Case):
    """Point 115."""

    def test_kinds(self):
        for texts, size in [((), 1), (("Q",), 1), (("P(a)",), 1), (("P(a)", "a = b"), 2), (("all x. P(x)",), 2),
                            (("some x. all y. P(x) iff M(y)", "c = c"), 9), (("all x. x = x",), 1),
                            (("some x. some y. x != y", "all x. M(x) and O"), 4),
                            (("some x. P(a) or M(b) and P(c)",), 7)]:
            self.gives(True, is_single, book(*texts))
            self.gives(size, enough, book(*texts), "single")
        for texts in [("R(a, a)",), ("all x. S(x, x, x)",), ("f(a) = a",), ("all x. P(f(x))",),
                      ("Q", "some x. R(x, a)"),
                      ("P(g(a, b))",), ("P(h(a, b, c))",)]:
            self.gives(False, is_single, book(*texts))
            self.fails(NotOfKind, enough, book(*texts), "single")


class Prefix(Case):
    """Point 116."""

    def test_kinds(self):
        for texts, size in [((), 1), (("Q",), 1), (("all x. R(x, x)",), 1), (("P(f(a))",), 2),
                            (("R(f(a), g(a, b))",), 4),
                            (("some x. all y. R(x, y)",), 1), (("some x. some y. all z. S(x, y, z)", "some x. P(x)"),
                                3),
                            (("not all x. P(x) or x = f(f(a))",), 4), (("all x. P(x) implies R(x, f(a))",), 2),
                            (("(some x. P(x)) iff Q",), 1), (("some x. some x. P(x)",), 2),
                            (("all xyz. all a1. R(xyz, a1)",), 1), (("some unknown. P(unknown)", "P(h(a, b, c))"), 5)]:
            self.gives(True, is_prefix, book(*texts))
            self.gives(size, enough, book(*texts), "prefix")
        for texts in [("all x. P(f(x))",), ("some x. f(x) = a",), ("all x. some y. R(x, y)",),
                      ("P(a)", "some x. P(g(a, x))"),
                      ("all x. P(x) and (Q or some y. R(x, y))",), ("not some x. all y. P(x)",),
                      ("all x. not (P(x) implies not some y. P(y))",), ("(all x. some y. Q) or Q",)]:
            self.gives(False, is_prefix, book(*texts))
            self.fails(NotOfKind, enough, book(*texts), "prefix")

    def test_an_iff_counts_twice(self):
        # Both directions are in the negation form, one of them as an `all` of an opposite.
        self.gives(2, enough, book("(some x. P(x)) iff some y. M(y)"), "prefix")
        self.gives(2, enough, book("not ((some x. P(x)) iff all y. M(y))"), "prefix")

    def test_leaves_beyond(self):
        # Point 122: at the size of the kind no tree over the clauses has a leaf beyond.
        rng = random.Random(12201)
        seen = 0
        for _ in range(400):
            one = draw_book(rng)
            if "prefix" not in kinds_of(one):
                continue
            try:
                form = form_of(one)
            except ValueError:
                continue
            size = enough(one, "prefix")
            found = []
            for clause in form.clauses:
                for _, left, right in clause:
                    for side in (left, right):
                        inner = [side] if isinstance(side, str) or not side[0][:1].isupper() else side[1:]
                        found += [part for term in inner for part in parts_of(term) if isinstance(part,
                            tuple) and part != ("",)]
            self.assertTrue(all(len(part) == 1 or not unknowns_of(part) for part in found))
            self.assertLessEqual(len({repr(part) for part in found}), size)
            for limit in (size, size + 1):
                grower = Grower(form.signature, form.clauses, limit, elder_every=rng.randint(0, 2))
                while not grower.has_ended() and grower.opened < 200:
                    grower.step()
                if grower.tree is not None:
                    seen += 1
                    self.assertFalse(grower.beyond)
        self.assertGreater(seen, 20)


class Linked(Case):
    """Point 117."""

    def test_positive(self):
        for texts, size in [((), 1), (("R(a, b)",), 1), (("all x. some y. R(x, y)",), 1),
                            (("all x. P(x) or R(x, x)",), 2),
                            (("not P(a)", "not Q", "some x. M(x)"), 4),
                            (("all x. some y. not M(y) and R(x, y) and x = y",), 2),
                            (("not not R(a, a)",), 1), (("not some x. P(x) and not S(x, x, x)",), 2)]:
            self.gives(True, is_linked, book(*texts))
            self.gives(size, enough, book(*texts), "linked")

    def test_guarded(self):
        for text in ["all x. all y. R(x, y) implies P(x)", "all x. all y. R(y, x) implies some z. R(y, z)",
                     "all x. all y. all z. S(y, z, x) implies R(x, a)", "all x. all y. not R(x, y)",
                     "all x. all y. (P(x) or not R(x, y)) or (x = y or M(a))",
                     "not some x. some y. R(x, y) and not P(y)",
                     "all x. all y. P(x) or (R(a, a) or (all z. R(x, z)) or not R(y, x))"]:
            self.gives(True, is_linked, book(text))
            self.assertNotIn("prefix" if "some z" in text else "", kinds_of(book(text)))

    def test_neither(self):
        for texts in [("a != b",), ("not R(a, b)",), ("all x. not R(x, x)",),
                      ("all x. all y. R(x, y) and R(y, x) implies P(x)",),
                      ("all x. all y. all z. R(x, y) implies P(x)",), ("all x. R(x, a) implies P(x)",),
                      ("all x. all x. R(x, x) implies P(x)",), ("all x. all y. all y. S(x, y, y) implies P(x)",),
                      ("all x. all y. R(x, y) implies x != y",), ("all x. all y. x = y implies R(x, y)",),
                      ("all x. all y. not R(x, y) and P(x)",), ("all x. some y. all z. R(y, z) implies P(x)",),
                      ("all x. all y. R(x, y) iff P(x)",), ("P(f(a))",), ("P(g(a, a))",), ("P(h(a, a, a))",),
                      ("all x. all y. R(x, y) and not R(y, x)",), ("all x. all y. R(x, a) implies P(y)",),
                      ("all x. all y. P(x) or not some z. R(x, y)",), ("all x. all y. Q or (P(x) and not R(x, y))",),
                      ("Q", "not S(a, a, a)"), ("all x. all y. not R(x, y) or not R(y, x)",)]:
            self.gives(False, is_linked, book(*texts))
            self.fails(NotOfKind, enough, book(*texts), "linked")


class Kinds(Case):
    """Points 118 to 121."""

    def test_the_example(self):
        one = book("P(a)", "some x. not P(x)")
        self.gives(["prefix", "single", "linked"], kinds_of, one)
        for word, size in (("prefix", 2), ("single", 3), ("linked", 2)):
            self.gives(size, enough, one, word)
        self.gives(2, told_size, one)

    def test_the_empty_book(self):
        self.gives(["prefix", "single", "linked"], kinds_of, book())
        for word in WORDS[1:]:
            self.gives(1, enough, book(), word)
        self.fails(NotOfKind, enough, book(), "listed")
        self.gives(1, told_size, book())

    def test_no_kind(self):
        one = book("all x. some y. f(x) != y and not R(y, x)")
        self.gives([], kinds_of, one)
        self.gives(None, told_size, one)
        for word in WORDS + ("", "kind", "Single"):
            self.fails(NotOfKind, enough, one, word)

    def test_words_that_are_no_kind(self):
        for word in ("", "all", "SINGLE", "single ", "fillings"):
            self.fails(NotOfKind, enough, book("P(a)"), word)

    def test_every_kind_alone(self):
        for word, size, texts in [("listed", 1, ("all x. x = a", "all x. not R(f(x), x)")),
                                  ("linked", 1, ("all x. some y. R(x, y)",)),
                                  ("prefix", 3, ("some x. all y. R(x, y) iff P(f(a))",)),
                                  ("single", 2, ("all x. some y. x != y",))]:
            self.gives([word], kinds_of, book(*texts))
            self.gives(size, enough, book(*texts), word)
            self.gives(size, told_size, book(*texts))

    def test_as_the_points_stand(self):
        rng = random.Random(11801)
        seen = {word: 0 for word in WORDS}
        for _ in range(500):
            one = draw_book(rng)
            sizes = plain_sizes(one)
            self.gives([word for word in WORDS if word in sizes], kinds_of, one)
            self.gives(min(sizes.values(), default=None), told_size, one)
            for word in WORDS:
                if word in sizes:
                    self.gives(sizes[word], enough, one, word)
                    seen[word] += 1
                else:
                    self.fails(NotOfKind, enough, one, word)
        self.assertGreater(min(seen.values()), 25)

    def test_other_books_of_the_same_kinds(self):
        rng = random.Random(12101)
        for _ in range(150):
            one = draw_book(rng)
            sizes = {word: enough(one, word) for word in kinds_of(one)}
            forms = Book(one.signature, [negation_form(sentence) for sentence in one.sentences])
            turned = Book(Signature(SIGNATURE.functions[::-1], SIGNATURE.relations[::-1]), one.sentences[::-1])
            for other in (forms, turned):
                self.assertEqual({word: enough(other, word) for word in kinds_of(other)}, sizes)
            for index in range(len(one.sentences)):
                less = one.without(index)
                for word in WORDS[1:]:
                    if word in sizes:
                        self.assertLessEqual(enough(less, word), sizes[word])
                if "listed" in kinds_of(less):
                    self.assertLessEqual(sizes["listed"], enough(less, "listed"))

    def test_the_sizes_are_enough(self):
        # Point 120, as far as worlds of up to three things tell.
        rng = random.Random(12001)
        marks = Signature([("a", 0), ("b", 0)], [("P", 1)])
        pairs = Signature([("a", 0)], [("R", 2)])
        told = {1: 0, 2: 0, 3: 0}
        for _ in range(150):
            small = rng.choice((marks, pairs))
            one = Book(small, [draw_over(rng, small) for _ in range(rng.randint(1, 3))])
            sizes = [enough(one, word) for word in kinds_of(one)]
            least = next((size for size in (1, 2, 3) if any(book_true(world, one) for world in worlds_of_size(small,
                size))), None)
            if least is not None and sizes:
                self.assertLessEqual(least, min(sizes))
                told[least] += 1
        self.assertGreater(told[2], 5)

    def test_nothing_is_changed(self):
        one = book("P(a)", "all x. x = a")
        before = state(one)
        kinds_of(one)
        told_size(one)
        self.assertEqual(state(one), before)
