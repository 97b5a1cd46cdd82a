import random

from tests.drawing import SIGNATURE, Case, draw_sentence, draw_term, draw_world
from worldorpaper.sentences import fill_sentence, free_unknowns, inner_sentences, quantifier_depth
from worldorpaper.terms import unknowns_of
from worldorpaper.truth import sentence_true, term_value

A = ("a",)
PX, PY, Q = ("holds", ("P", "x")), ("holds", ("P", "y")), ("holds", ("Q",))
RXY = ("holds", ("R", "x", "y"))
PAIRS = ("and", "or", "implies", "iff")


def unbound_occurrences(sentence, bound):
    """Every unbound occurrence from left to right, repeats included."""
    if sentence[0] == "holds" or sentence[0] == "same":
        found = []
        stack = list(sentence[1:])
        while stack:
            term = stack.pop(0)
            if isinstance(term, str):
                found.append(term)
            else:
                stack = list(term[1:]) + stack
        return [name for name in found if name not in bound]
    if sentence[0] in ("all", "some"):
        return unbound_occurrences(sentence[2], bound | {sentence[1]})
    return [name for part in sentence[1:] for name in unbound_occurrences(part, bound)]


def deep(words):
    """P(x) behind these binders and denials."""
    sentence = PX
    for word in reversed(words):
        sentence = ("not", sentence) if word == "not" else (word, "x", sentence)
    return sentence


class FreeUnknowns(Case):
    """Point 6."""

    def test_basic(self):
        self.gives(["x", "y"], free_unknowns, RXY)
        self.gives(["y", "x"], free_unknowns, ("same", ("g", "y", "x"), "x"))
        self.gives([], free_unknowns, Q)
        self.gives([], free_unknowns, ("same", A, ("f", A)))

    def test_words(self):
        self.gives(["x"], free_unknowns, ("not", PX))
        for word in PAIRS:
            self.gives(["x", "y"], free_unknowns, (word, PX, PY))
            self.gives(["y", "x"], free_unknowns, (word, PY, RXY))
            self.gives(["x", "y"], free_unknowns, (word, Q, RXY))

    def test_binders(self):
        for word in ("all", "some"):
            self.gives([], free_unknowns, (word, "x", PX))
            self.gives(["y"], free_unknowns, (word, "x", RXY))
            self.gives(["x"], free_unknowns, (word, "y", RXY))
            self.gives(["x", "y"], free_unknowns, (word, "z", RXY))

    def test_bound_in_one_part_and_unbound_in_another(self):
        self.gives(["y", "x"], free_unknowns, ("and", ("all", "x", RXY), PX))
        self.gives(["x", "y"], free_unknowns, ("or", PX, ("some", "x", RXY)))

    def test_name_bound_twice(self):
        self.gives([], free_unknowns, ("all", "x", ("or", PX, ("some", "x", PX))))
        self.gives(["y"], free_unknowns, ("all", "x", ("or", ("some", "x", PX), RXY)))
        self.gives([], free_unknowns, ("all", "x", ("and", ("all", "x", PX), PX)))

    def test_drawn(self):
        rng = random.Random(6)
        for _ in range(300):
            sentence = draw_sentence(rng, 5)
            expected = list(dict.fromkeys(unbound_occurrences(sentence, frozenset())))
            self.gives(expected, free_unknowns, sentence)


    def test_functions_with_the_names_of_words(self):
        basic = ("holds", ("P", ("holds", ("same", "x", "y"))))
        self.gives(["x", "y"], free_unknowns, basic)
        self.gives(["same", "y"], free_unknowns, ("same", ("same", "same", "y"), ("holds", "same")))
        self.gives(["y"], free_unknowns, ("all", "same", ("same", ("same", "same", "y"), ("holds", "same"))))
        self.gives(1, quantifier_depth, ("all", "x", basic))
        self.gives(("holds", ("P", ("holds", ("same", A, "y")))), fill_sentence, basic, {"x": A})


class Inside(Case):
    """Point 6: the sentences directly inside a sentence."""

    def test_inside(self):
        for basic in (PX, Q, ("same", A, "x"), ("same", ("holds", "x"), ("same", "x", "y"))):
            self.gives((), inner_sentences, basic)
        self.gives((PX,), inner_sentences, ("not", PX))
        for word in ("all", "some"):
            self.gives((PX,), inner_sentences, (word, "x", PX))
        for word in PAIRS:
            self.gives((PX, Q), inner_sentences, (word, PX, Q))


class Depth(Case):
    """Point 6."""

    def test_depth(self):
        self.gives(0, quantifier_depth, Q)
        self.gives(0, quantifier_depth, ("same", "x", "y"))
        self.gives(0, quantifier_depth, ("not", ("and", PX, PY)))
        self.gives(1, quantifier_depth, ("all", "x", PX))
        self.gives(1, quantifier_depth, ("some", "x", PX))
        self.gives(2, quantifier_depth, ("all", "x", ("not", ("some", "x", PX))))
        self.gives(3, quantifier_depth, deep(["all", "not", "some", "not", "not", "all"]))
        for word in PAIRS:
            self.gives(2, quantifier_depth, (word, ("all", "x", PX), ("some", "y", ("all", "x", RXY))))
            self.gives(2, quantifier_depth, (word, ("some", "y", ("all", "x", RXY)), ("all", "x", PX)))
            self.gives(3, quantifier_depth, ("all", "y", (word, deep(["some", "all"]), Q)))

    def test_deep_sentences(self):
        self.gives(20, quantifier_depth, deep(["all", "some"] * 10))
        self.gives(60, quantifier_depth, deep(["all", "some"] * 30))
        self.gives([], free_unknowns, deep(["all", "some"] * 30))
        self.gives(["x"], free_unknowns, deep(["not"] * 60))


class Filling(Case):
    """Point 7."""

    def test_unbound_occurrences_only(self):
        filling = {"x": A}
        self.gives(("holds", ("P", A)), fill_sentence, PX, filling)
        self.gives(("same", A, ("f", A)), fill_sentence, ("same", "x", ("f", "x")), filling)
        self.gives(("not", ("holds", ("P", A))), fill_sentence, ("not", PX), filling)
        for word in ("all", "some"):
            self.gives((word, "x", PX), fill_sentence, (word, "x", PX), filling)
            self.gives((word, "y", ("holds", ("R", A, "y"))), fill_sentence, (word, "y", RXY), filling)
        for word in PAIRS:
            self.gives((word, ("all", "x", RXY), ("holds", ("P", A))),
                       fill_sentence, (word, ("all", "x", RXY), PX), filling)

    def test_hidden_below_and_free_again(self):
        sentence = ("and", ("all", "x", ("or", ("some", "y", RXY), RXY)), RXY)
        expected = ("and", ("all", "x", ("or", ("some", "y", RXY), ("holds", ("R", "x", ("b",))))),
                    ("holds", ("R", A, ("b",))))
        self.gives(expected, fill_sentence, sentence, {"x": A, "y": ("b",)})

    def test_all_at_once(self):
        self.gives(("holds", ("R", "y", "x")), fill_sentence, RXY, {"x": "y", "y": "x"})
        self.gives(("holds", ("R", ("f", "x"), "y")), fill_sentence, RXY, {"x": ("f", "x")})
        self.gives(RXY, fill_sentence, RXY, {})
        self.gives(RXY, fill_sentence, RXY, {"z": A})

    def test_filled_sentence_is_true_at_the_values_of_the_terms(self):
        rng = random.Random(77)
        # The terms put in have unknowns that no binder binds.
        outside = ("u", "v")
        for _ in range(200):
            sentence = draw_sentence(rng, 3)
            world = draw_world(rng, rng.randint(1, 3))
            filling = {name: draw_term(rng, 2, outside) for name in ("x", "y")}
            values = {name: rng.choice(world.things) for name in ("u", "v", "z")}
            inner = {"z": values["z"]}
            for name in filling:
                inner[name] = term_value(world, filling[name], values)
            filled = self.call(fill_sentence, sentence, filling)
            self.assertEqual(sentence_true(world, filled, values), sentence_true(world, sentence, inner))
            expected = [name for name in free_unknowns(sentence) for name in unknowns_of(filling.get(name, name))]
            self.assertEqual(set(free_unknowns(filled)), set(expected))
            SIGNATURE.check_sentence(filled, ("u", "v", "z"))
