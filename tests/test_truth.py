import itertools
import random

from tests.drawing import SIGNATURE, UNKNOWNS, Case, draw_clause, draw_literal, draw_sentence, draw_term, draw_world
from worldorpaper.books import Book, Signature
from worldorpaper.clauses import clause_unknowns, make_clause, make_literal
from worldorpaper.terms import TOP
from worldorpaper.truth import (
    book_true, clause_true, clauses_true, false_values, literal_true, sentence_true, term_value,
)
from worldorpaper.worlds import World

A = ("a",)
FACTS = Signature([("a", 0)], [("T", 0), ("F", 0), ("P", 1), ("R", 2)])
T, F = ("holds", ("T",)), ("holds", ("F",))
# Three things; a is 1; P holds for 0 and 1; R is "less than".
WORLD = World(FACTS, 3, {"a": [1], "T": [True], "F": [False], "P": [True, True, False],
                         "R": [False, True, True, False, False, True, False, False, False]})
PX, RXY = ("holds", ("P", "x")), ("holds", ("R", "x", "y"))


def plain_truth(world, sentence, values):
    """Truth by tables of truth values and by filling all things in."""
    word = sentence[0]
    if word == "holds":
        return world.holds(sentence[1][0], [plain_value(world, term, values) for term in sentence[1][1:]])
    if word == "same":
        return plain_value(world, sentence[1], values) == plain_value(world, sentence[2], values)
    if word == "not":
        return {True: False, False: True}[plain_truth(world, sentence[1], values)]
    if word in ("all", "some"):
        found = [plain_truth(world, sentence[2], {**values, sentence[1]: thing}) for thing in range(world.size)]
        return found.count(False) == 0 if word == "all" else found.count(True) > 0
    row = (plain_truth(world, sentence[1], values), plain_truth(world, sentence[2], values))
    return row in {
        "and": [(True, True)],
        "or": [(True, True), (True, False), (False, True)],
        "implies": [(True, True), (False, True), (False, False)],
        "iff": [(True, True), (False, False)],
    }[word]


def plain_value(world, term, values):
    if isinstance(term, str):
        return values[term]
    index = 0
    for argument in term[1:]:
        index = index * world.size + plain_value(world, argument, values)
    return world.table(term[0])[index]


def plain_false_values(world, clause):
    names = clause_unknowns(clause)
    for things in itertools.product(range(world.size), repeat=len(names)):
        values = dict(zip(names, things))
        if not any(literal_true(world, literal, values) for literal in clause):
            return things
    return None


class TermValues(Case):
    """Point 31."""

    def test_values(self):
        self.gives(2, term_value, WORLD, "x", {"x": 2, "y": 0})
        self.gives(1, term_value, WORLD, A, {})
        rng = random.Random(31)
        for size in (1, 2, 3, 4):
            world = draw_world(rng, size)
            for _ in range(60):
                values = {name: rng.randrange(size) for name in UNKNOWNS + ("u",)}
                term = draw_term(rng, 4)
                self.gives(plain_value(world, term, values), term_value, world, term, values)


class Sentences(Case):
    """Point 31."""

    def test_basic(self):
        self.gives(True, sentence_true, WORLD, T)
        self.gives(False, sentence_true, WORLD, F)
        self.gives(True, sentence_true, WORLD, RXY, {"x": 0, "y": 2})
        self.gives(False, sentence_true, WORLD, RXY, {"x": 2, "y": 0})
        self.gives(True, sentence_true, WORLD, ("same", "x", A), {"x": 1})
        self.gives(False, sentence_true, WORLD, ("same", "x", A), {"x": 0})

    def test_words(self):
        facts = {True: T, False: F}
        for first, second in itertools.product((True, False), repeat=2):
            expected = {"and": first and second, "or": first or second, "implies": not first or second,
                        "iff": first == second}
            for word in expected:
                self.gives(expected[word], sentence_true, WORLD, (word, facts[first], facts[second]))
        self.gives(False, sentence_true, WORLD, ("not", T))
        self.gives(True, sentence_true, WORLD, ("not", F))

    def test_binders(self):
        self.gives(False, sentence_true, WORLD, ("all", "x", PX))
        self.gives(True, sentence_true, WORLD, ("some", "x", PX))
        self.gives(True, sentence_true, WORLD, ("some", "x", ("not", PX)))
        self.gives(True, sentence_true, WORLD, ("all", "x", ("same", "x", "x")))
        self.gives(False, sentence_true, WORLD, ("some", "x", ("not", ("same", "x", "x"))))
        self.gives(True, sentence_true, WORLD, ("some", "x", ("all", "y", ("or", RXY, ("same", "x", "y")))))
        self.gives(False, sentence_true, WORLD, ("all", "x", ("some", "y", RXY)))

    def test_first_and_last_thing_count(self):
        for thing in range(3):
            only = World.blank(FACTS, 3).with_table("P", [other == thing for other in range(3)])
            but = World.blank(FACTS, 3).with_table("P", [other != thing for other in range(3)])
            self.gives(True, sentence_true, only, ("some", "x", PX))
            self.gives(False, sentence_true, but, ("all", "x", PX))

    def test_hidden_names(self):
        both = ("and", ("some", "x", ("not", PX)), PX)
        self.gives(True, sentence_true, WORLD, ("some", "x", both))
        self.gives(True, sentence_true, WORLD, both, {"x": 0})
        self.gives(False, sentence_true, WORLD, both, {"x": 2})
        self.gives(True, sentence_true, WORLD, ("all", "x", ("some", "x", PX)))
        self.gives(False, sentence_true, WORLD, ("some", "x", ("all", "x", PX)))
        self.gives(True, sentence_true, WORLD, ("all", "x", ("and", ("some", "x", PX), ("same", "x", "x"))))

    def test_values_of_bound_names_do_not_count(self):
        for thing in range(3):
            self.gives(False, sentence_true, WORLD, ("all", "x", PX), {"x": thing})
            self.gives(True, sentence_true, WORLD, ("some", "x", ("not", PX)), {"x": thing, "y": 0})
            self.gives(thing == 0, sentence_true, WORLD,
                       ("some", "x", ("and", ("holds", ("R", "y", "x")), PX)), {"x": 2, "y": thing})

    def test_values_that_are_not_needed(self):
        self.gives(True, sentence_true, WORLD, T, {"x": 0, "other": 2})
        self.gives(True, sentence_true, WORLD, PX, {"x": 0, "y": 2})
        self.gives(True, sentence_true, WORLD, T, None)
        self.gives(True, sentence_true, WORLD, T, {})

    def test_one_thing(self):
        world = World.blank(FACTS, 1)
        self.gives(True, sentence_true, world, ("all", "x", ("all", "y", ("same", "x", "y"))))
        self.gives(False, sentence_true, world, ("some", "x", PX))

    def test_drawn(self):
        rng = random.Random(311)
        for _ in range(400):
            size = rng.randint(1, 3)
            world, sentence = draw_world(rng, size), draw_sentence(rng, 4)
            values = {name: rng.randrange(size) for name in UNKNOWNS + ("u",)}
            self.gives(plain_truth(world, sentence, values), sentence_true, world, sentence, values)

    def test_nested_sixty_deep(self):
        sentence = T
        for _ in range(60):
            sentence = ("not", sentence)
        self.gives(True, sentence_true, WORLD, sentence)
        sentence = T
        for _ in range(60):
            sentence = ("all", "x", sentence)
        self.gives(True, sentence_true, World.blank(FACTS, 1).with_table("T", [True]), sentence)


class Books(Case):
    """Point 31."""

    def test_books(self):
        self.gives(True, book_true, WORLD, Book(FACTS, []))
        self.gives(True, book_true, WORLD, Book(FACTS, [T, ("some", "x", PX), ("not", F)]))
        self.gives(False, book_true, WORLD, Book(FACTS, [F, T]))
        self.gives(False, book_true, WORLD, Book(FACTS, [T, F]))
        self.gives(False, book_true, WORLD, Book(FACTS, [T, F, T]))


class Literals(Case):
    """Point 32."""

    def test_literals(self):
        self.gives(True, literal_true, WORLD, (True, ("T",), TOP), {})
        self.gives(False, literal_true, WORLD, (False, ("T",), TOP), {})
        self.gives(False, literal_true, WORLD, (True, ("F",), TOP), {})
        self.gives(True, literal_true, WORLD, (False, ("F",), TOP), {})
        for x, y in itertools.product(range(3), repeat=2):
            values = {"x": x, "y": y, "z": 0}
            self.gives(x < y, literal_true, WORLD, (True, ("R", "x", "y"), TOP), values)
            self.gives(x >= y, literal_true, WORLD, (False, ("R", "x", "y"), TOP), values)
            self.gives(x == y, literal_true, WORLD, (True, "x", "y"), values)
            self.gives(x != y, literal_true, WORLD, (False, "x", "y"), values)
            self.gives(x == 1, literal_true, WORLD, (True, A, "x"), values)

    def test_top_on_both_sides(self):
        self.gives(True, literal_true, WORLD, (True, TOP, TOP), {})
        self.gives(False, literal_true, WORLD, (False, TOP, TOP), {})

    def test_drawn(self):
        rng = random.Random(321)
        for _ in range(300):
            size = rng.randint(1, 3)
            world, (sign, left, right) = draw_world(rng, size), draw_literal(rng, 2)
            values = {name: rng.randrange(size) for name in UNKNOWNS}
            sentence = ("holds", left) if right == TOP else ("same", left, right)
            expected = plain_truth(world, sentence if sign else ("not", sentence), values)
            self.gives(expected, literal_true, world, (sign, left, right), values)


class Clauses(Case):
    """Point 32."""

    def test_empty_clause(self):
        self.gives((), false_values, WORLD, ())
        self.gives(False, clause_true, WORLD, ())

    def test_without_unknowns(self):
        self.gives(None, false_values, WORLD, ((True, ("T",), TOP),))
        self.gives((), false_values, WORLD, ((True, ("F",), TOP),))
        self.gives(None, false_values, WORLD, make_clause([(True, ("F",), TOP), (True, ("P", A), TOP)]))
        self.gives((), false_values, WORLD, ((False, A, A),))

    def test_first_false_values(self):
        self.gives((2,), false_values, WORLD, ((True, ("P", "x"), TOP),))
        self.gives((0,), false_values, WORLD, ((False, ("P", "x"), TOP),))
        self.gives((0, 0), false_values, WORLD, ((True, ("R", "x", "y"), TOP),))
        self.gives((0, 1), false_values, WORLD, ((False, ("R", "x", "y"), TOP),))
        self.gives((2, 0), false_values, WORLD, make_clause([(True, ("P", "x"), TOP), (True, ("R", "x", "y"), TOP)]))
        self.gives(None, false_values, WORLD, ((True, "x", "x"),))
        self.gives((0, 1), false_values, WORLD, ((True, "x", "y"),))
        self.gives(None, false_values, WORLD, ((False, ("R", "x", "x"), TOP),))

    def test_order_of_the_unknowns(self):
        clause = ((False, ("P", "y"), TOP), (True, ("R", "x", "y"), TOP))
        self.assertEqual(clause_unknowns(clause), ["y", "x"])
        self.gives((0, 0), false_values, WORLD, clause)
        clause = ((False, ("R", "y", "x"), TOP), (True, ("P", "x"), TOP))
        self.gives((0, 2), false_values, WORLD, clause)

    def test_drawn(self):
        rng = random.Random(322)
        kinds = set()
        for _ in range(600):
            world = draw_world(rng, rng.randint(1, 3))
            clause = draw_clause(rng, rng.choice((2, 4, 6)), rng.choice((0, 1, 2)), ("x", "y", "z", "u", "v"))
            expected = plain_false_values(world, clause)
            kinds.add(expected is None)
            self.gives(expected, false_values, world, clause)
            self.gives(expected is None, clause_true, world, clause)
        self.assertEqual(kinds, {True, False})

    def test_many_unknowns(self):
        names = ["x" + str(number) for number in range(12)]
        clause = make_clause([make_literal(False, ("P", name), TOP) for name in names])
        self.gives(None, false_values, World.blank(FACTS, 8), clause)
        last = World.blank(FACTS, 8).with_table("P", [False] * 7 + [True])
        self.gives((7,) * 12, false_values, last, clause)

    def test_several_clauses(self):
        right, wrong = ((True, ("T",), TOP),), ((True, ("F",), TOP),)
        self.gives(True, clauses_true, WORLD, [])
        self.gives(True, clauses_true, WORLD, ())
        self.gives(True, clauses_true, WORLD, [right, right])
        self.gives(False, clauses_true, WORLD, [right, wrong])
        self.gives(False, clauses_true, WORLD, (wrong, right))
        self.gives(False, clauses_true, WORLD, [right, ()])
        self.gives(True, clause_true, WORLD, right)
        self.gives(False, clause_true, WORLD, wrong)

    def test_clause_is_true_where_its_sentence_is(self):
        rng = random.Random(323)
        for _ in range(100):
            world, clause = draw_world(rng, rng.randint(1, 3)), draw_clause(rng, 3, 1)
            sentence = ("not", ("same", A, A))
            for sign, left, right in clause:
                part = ("holds", left) if right == TOP else ("same", left, right)
                sentence = ("or", sentence, part if sign else ("not", part))
            for name in clause_unknowns(clause):
                sentence = ("all", name, sentence)
            SIGNATURE.check_sentence(sentence)
            self.assertEqual(clause_true(world, clause), sentence_true(world, sentence))
