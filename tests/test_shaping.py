import itertools
import random

from tests.drawing import Case, draw_sentence, draw_world
from worldorpaper.books import Signature
from worldorpaper.errors import BadStep
from worldorpaper.sentences import free_unknowns, inner_sentences
from worldorpaper.shaping import narrowing_steps, negation_form, negation_steps, step_result
from worldorpaper.truth import sentence_true
from worldorpaper.worlds import World

A = ("a",)
P, Q, S = ("holds", ("P", "x")), ("holds", ("Q",)), ("same", "y", A)
PY, RXY = ("holds", ("P", "y")), ("holds", ("R", "x", "y"))
WORDS = ("implies", "iff", "not", "narrow", "apart", "choose", "free")


def no(part):
    return ("not", part)


def every(name, part):
    return ("all", name, part)


def some(name, part):
    return ("some", name, part)


def both(first, second):
    return ("and", first, second)


def either(first, second):
    return ("or", first, second)


def places_in(sentence):
    yield ()
    for index, part in enumerate(inner_sentences(sentence)):
        for place in places_in(part):
            yield (index,) + place


def part_of(sentence, place):
    for index in place:
        sentence = inner_sentences(sentence)[index]
    return sentence


def takeable(sentence, words):
    """All steps that can be taken, in preorder of their places."""
    for place in places_in(sentence):
        for word in words:
            try:
                yield word, place, step_result(word, sentence, place)
            except BadStep:
                pass


def until_none(sentence, words):
    rows = []
    while True:
        row = next(takeable(sentence, words), None)
        if row is None:
            return rows
        rows.append(row)
        sentence = row[2]


class NegationForm(Case):
    """Points 43 and 44."""

    def test_basic_sentences(self):
        for basic in (P, Q, S):
            self.gives(basic, negation_form, basic)
            self.gives(no(basic), negation_form, no(basic))
            self.gives(basic, negation_form, no(no(basic)))
            self.gives(no(basic), negation_form, no(no(no(basic))))

    def test_pairs(self):
        self.gives(both(P, Q), negation_form, both(P, Q))
        self.gives(either(P, Q), negation_form, either(P, Q))
        self.gives(either(no(P), no(Q)), negation_form, no(both(P, Q)))
        self.gives(both(no(P), no(Q)), negation_form, no(either(P, Q)))
        self.gives(either(no(P), Q), negation_form, ("implies", P, Q))
        self.gives(both(P, no(Q)), negation_form, no(("implies", P, Q)))
        self.gives(both(either(no(P), Q), either(no(Q), P)), negation_form, ("iff", P, Q))
        self.gives(either(both(P, no(Q)), both(Q, no(P))), negation_form, no(("iff", P, Q)))

    def test_binders(self):
        self.gives(every("x", P), negation_form, every("x", P))
        self.gives(some("x", no(P)), negation_form, no(every("x", P)))
        self.gives(every("x", no(P)), negation_form, no(some("x", P)))
        self.gives(every("x", some("x", no(P))), negation_form, no(some("x", every("x", P))))

    def test_iff_inside_iff(self):
        inner = both(either(no(P), Q), either(no(Q), P))
        denied = either(both(P, no(Q)), both(Q, no(P)))
        self.gives(both(either(denied, S), either(no(S), inner)), negation_form, ("iff", ("iff", P, Q), S))
        self.gives(either(both(inner, no(S)), both(S, denied)), negation_form, no(("iff", ("iff", P, Q), S)))

    def test_any_order_of_replacements(self):
        rng = random.Random(1)
        for _ in range(150):
            sentence = draw_sentence(rng, 4)
            now = sentence
            while True:
                rows = list(takeable(now, ("implies", "iff", "not")))
                if not rows:
                    break
                now = rng.choice(rows)[2]
            self.gives(now, negation_form, sentence)

    def test_same_truth(self):
        rng = random.Random(2)
        for _ in range(150):
            sentence = draw_sentence(rng, 3)
            world = draw_world(rng, rng.randint(1, 3))
            for things in itertools.product(world.things, repeat=3):
                values = dict(zip("xyz", things))
                self.assertIs(sentence_true(world, negation_form(sentence), values),
                              sentence_true(world, sentence, values))

    def test_long_sentences(self):
        sentence = P
        for _ in range(20):
            sentence = no(sentence)
        self.gives(P, negation_form, sentence)
        for _ in range(7):
            sentence = ("iff", sentence, Q)
        form = self.call(negation_form, sentence)
        self.assertEqual(list(negation_steps(sentence))[-1][2], form)


class Replacements(Case):
    """Points 45 and 46: the steps that look at no name."""

    def test_implies(self):
        self.gives(either(no(P), Q), step_result, "implies", ("implies", P, Q), ())
        self.gives(no(every("x", either(no(P), Q))), step_result, "implies", no(every("x", ("implies", P, Q))), (0, 0))
        self.gives(("implies", P, either(no(Q), S)), step_result, "implies", ("implies", P, ("implies", Q, S)), (1,))

    def test_iff(self):
        self.gives(both(("implies", P, Q), ("implies", Q, P)), step_result, "iff", ("iff", P, Q), ())
        self.gives(("iff", P, both(("implies", Q, S), ("implies", S, Q))),
                   step_result, "iff", ("iff", P, ("iff", Q, S)), (1,))

    def test_not(self):
        for before, after in [(no(P), P), (both(P, Q), either(no(P), no(Q))), (either(P, Q), both(no(P), no(Q))),
                              (("implies", P, Q), both(P, no(Q))),
                              (("iff", P, Q), either(both(P, no(Q)), both(Q, no(P)))),
                              (every("x", P), some("x", no(P))), (some("x", P), every("x", no(P)))]:
            self.gives(after, step_result, "not", no(before), ())
            self.gives(both(S, after), step_result, "not", both(S, no(before)), (1,))
        for sentence in (no(P), no(S), P, both(P, Q), every("x", no(P))):
            self.fails(BadStep, step_result, "not", sentence, ())

    def test_each_word_needs_its_part(self):
        parts = {"implies": ("implies", P, Q), "iff": ("iff", P, Q), "not": no(no(P)), "narrow": some("y", P)}
        others = [P, S, no(P), both(P, Q), either(P, Q)]
        for word in parts:
            for part in others + [parts[other] for other in parts if other != word]:
                self.fails(BadStep, step_result, word, part, ())
                self.fails(BadStep, step_result, word, every("x", part), (0,))

    def test_narrow_without_the_unknown(self):
        for word in ("all", "some"):
            for part in (Q, PY, both(Q, PY), either(PY, S), ("implies", Q, Q), no(Q), every("x", P), some("x", RXY),
                         ("iff", every("x", P), PY)):
                self.gives(part, step_result, "narrow", (word, "x", part), ())

    def test_narrow_parts_without_the_unknown(self):
        for word, pair in itertools.product(("all", "some"), ("and", "or")):
            if (word, pair) != ("all", "and"):
                self.gives((pair, Q, (word, "x", P)), step_result, "narrow", (word, "x", (pair, Q, P)), ())
                self.gives((pair, (word, "x", P), Q), step_result, "narrow", (word, "x", (pair, P, Q)), ())
                self.fails(BadStep, step_result, "narrow", (word, "x", (pair, P, RXY)), ())
                hiding = every("x", P)
                self.gives((pair, hiding, (word, "x", P)), step_result, "narrow", (word, "x", (pair, hiding, P)), ())
        self.gives(both(every("x", P), every("x", RXY)), step_result, "narrow", every("x", both(P, RXY)), ())
        self.gives(both(every("x", Q), every("x", P)), step_result, "narrow", every("x", both(Q, P)), ())
        self.gives(both(every("x", P), every("x", Q)), step_result, "narrow", every("x", both(P, Q)), ())

    def test_narrow_moves_nothing_else(self):
        for part in (P, no(P), ("same", "x", A), ("implies", Q, P), ("implies", P, Q), ("iff", Q, P), no(both(P, Q)),
                     some("y", RXY), every("y", both(RXY, Q))):
            self.fails(BadStep, step_result, "narrow", every("x", part), ())
            self.fails(BadStep, step_result, "narrow", some("x", part), ())

    def test_free(self):
        self.gives(P, step_result, "free", every("x", P), ())
        self.gives(some("y", RXY), step_result, "free", every("x", some("y", RXY)), ())
        self.gives(both(Q, either(P, PY)), step_result, "free", both(Q, either(every("x", P), PY)), (1, 0))
        self.gives(either(every("x", P), P), step_result, "free", either(every("x", P), every("x", P)), (1,))
        for sentence, place in [(some("x", P), ()), (P, ()), (no(every("x", P)), (0,)),
                                (every("y", every("x", P)), (0,)), (some("y", every("x", P)), (0,)),
                                (("implies", every("x", P), Q), (0,)), (("iff", Q, every("x", P)), (1,)),
                                (both(Q, no(every("x", P))), (1, 0)), (either(every("x", P), P), (0,)),
                                (both(every("x", Q), RXY), (0,)), (both(P, some("x", P)), (1,))]:
            self.fails(BadStep, step_result, "free", sentence, place)

    def test_free_where_the_unknown_is_bound_elsewhere(self):
        self.gives(both(P, some("x", P)), step_result, "free", both(every("x", P), some("x", P)), (0,))


class Apart(Case):
    """Point 45: apart."""

    def test_renaming(self):
        for word in ("all", "some"):
            self.gives((word, "v", ("holds", ("P", "v"))), step_result, "apart", (word, "x", P), (), "v")
            self.gives((word, "v", Q), step_result, "apart", (word, "x", Q), (), "v")
            self.gives(no((word, "x1", ("iff", ("holds", ("R", "x1", "y")), ("same", "x1", A)))),
                       step_result, "apart", no((word, "x", ("iff", RXY, ("same", "x", A)))), (0,), "x1")

    def test_hidden_occurrences_stay(self):
        sentence = every("x", both(P, some("x", P)))
        self.gives(every("v", both(("holds", ("P", "v")), some("x", P))), step_result, "apart", sentence, (), "v")
        self.gives(every("x", both(P, some("v", ("holds", ("P", "v"))))), step_result, "apart", sentence, (0, 1), "v")

    def test_names_outside_the_part_do_not_count(self):
        sentence = both(PY, every("x", P))
        self.gives(both(PY, every("y", PY)), step_result, "apart", sentence, (1,), "y")
        self.gives(every("y", every("y", PY)), step_result, "apart", every("y", every("x", P)), (0,), "y")
        # Whether the name is that of a function is not asked.
        self.gives(every("a", ("same", "a", A)), step_result, "apart", every("x", ("same", "x", A)), (), "a")

    def test_wrong_names(self):
        for name in ("", "P", "X", "1x", "all", "or", "true", "x y", "x_1", "abcdefghijklm", " v", "v\n"):
            self.fails(BadStep, step_result, "apart", every("x", P), (), name)
        for name in ("x", "y", "z", "u"):
            self.fails(BadStep, step_result, "apart", every("x", both(RXY, some("z", every("u", P)))), (), name)
        self.fails(BadStep, step_result, "apart", every("x", P), ())
        self.gives(every("abcdefghijkl", ("holds", ("P", "abcdefghijkl"))),
                   step_result, "apart", every("x", P), (), "abcdefghijkl")

    def test_wrong_parts(self):
        for part in (P, no(P), both(P, Q), ("iff", P, Q)):
            self.fails(BadStep, step_result, "apart", part, (), "v")


class Choose(Case):
    """Point 45: choose."""

    def test_constants_and_functions(self):
        self.gives(("holds", ("P", ("w",))), step_result, "choose", some("x", P), (), "w")
        self.gives(Q, step_result, "choose", some("x", Q), (), "w")
        self.gives(every("x", ("holds", ("R", "x", ("w", "x")))), step_result, "choose", every("x", some("y", RXY)),
                   (0,), "w")
        three = ("holds", ("S", "z", ("f", "x"), "u"))
        self.gives(("holds", ("S", ("w", "x", "u"), ("f", "x"), "u")), step_result, "choose", some("z", three), (), "w")
        self.gives(("holds", ("S", "z", ("f", "x"), ("w", "z", "x"))), step_result, "choose", some("u", three), (), "w")
        self.gives(both(three, ("same", ("w", "z", "x", "u"), A)), step_result, "choose",
                   some("y", both(three, S)), (), "w")

    def test_hidden_binders_around(self):
        sentence = both(Q, either(every("x", some("y", RXY)), PY))
        self.gives(both(Q, either(every("x", ("holds", ("R", "x", ("w", "x")))), PY)),
                   step_result, "choose", sentence, (1, 0, 0), "w")

    def test_parts_around(self):
        self.gives(both(("same", ("w",), A), Q), step_result, "choose", both(some("y", S), Q), (0,), "w")
        self.fails(BadStep, step_result, "choose", no(some("y", S)), (0,), "w")
        self.fails(BadStep, step_result, "choose", ("implies", Q, some("y", S)), (1,), "w")
        self.fails(BadStep, step_result, "choose", ("iff", some("y", S), Q), (0,), "w")
        self.fails(BadStep, step_result, "choose", some("x", some("y", S)), (0,), "w")
        self.fails(BadStep, step_result, "choose", both(Q, no(every("x", some("y", S)))), (1, 0, 0), "w")
        for part in (P, no(P), every("x", P), both(P, Q)):
            self.fails(BadStep, step_result, "choose", part, (), "w")

    def test_too_many_unknowns(self):
        four = both(("holds", ("S", "x", "y", "z")), ("holds", ("P", "u")))
        self.gives(both(("holds", ("S", "x", "y", "z")), ("holds", ("P", ("w", "x", "y", "z")))),
                   step_result, "choose", some("u", four), (), "w")
        self.fails(BadStep, step_result, "choose", some("v", four), (), "w")
        self.fails(BadStep, step_result, "choose", every("x", some("v", four)), (0,), "w")

    def test_names_that_are_bound_in_the_part(self):
        self.fails(BadStep, step_result, "choose", some("y", both(S, every("y", PY))), (), "w")
        self.fails(BadStep, step_result, "choose", some("y", both(RXY, every("x", P))), (), "w")
        self.fails(BadStep, step_result, "choose", some("y", both(RXY, every("x", Q))), (), "w")
        self.gives(both(("same", ("w",), A), every("x", P)), step_result, "choose", some("y", both(S, every("x", P))),
                   (), "w")

    def test_wrong_names(self):
        for name in ("", "W", "1", "some", "false", "w w", "abcdefghijklm"):
            self.fails(BadStep, step_result, "choose", some("x", P), (), name)
        self.fails(BadStep, step_result, "choose", some("x", P), ())
        self.gives(("holds", ("P", ("x",))), step_result, "choose", some("x", P), (), "x")


class Places(Case):
    """Point 46: places and words."""

    def test_places_outside(self):
        sentence = every("x", both(no(no(P)), ("implies", P, Q)))
        self.gives(every("x", both(P, ("implies", P, Q))), step_result, "not", sentence, (0, 0))
        for word in WORDS:
            for place in [(1,), (-1,), (0, 2), (0, -1), (0, 0, 1), (0, 0, 0, 0, 0), (0, 1, 2), (0, 1, 0, 0), (2,)]:
                self.fails(BadStep, step_result, word, sentence, place, "v")
        for word in WORDS:
            self.fails(BadStep, step_result, word, P, (0,), "v")
            self.fails(BadStep, step_result, word, S, (1,), "v")

    def test_unknown_words(self):
        for word in ("", "and", "or", "all", "some", "Not", "not ", "apart ", "given", "same"):
            for sentence in (no(no(P)), some("y", P), ("implies", P, Q)):
                self.fails(BadStep, step_result, word, sentence, (), "v")

    def test_names_of_other_steps_do_not_count(self):
        for name in ("", "x", "all", "P", "anything at all"):
            self.gives(P, step_result, "not", no(no(P)), (), name)
            self.gives(either(no(P), Q), step_result, "implies", ("implies", P, Q), (), name)
            self.gives(P, step_result, "narrow", every("y", P), (), name)
            self.gives(P, step_result, "free", every("x", P), (), name)


class StepsAndTruth(Case):
    """Point 47."""

    def test_steps_other_than_choose(self):
        rng = random.Random(3)
        seen = dict.fromkeys(WORDS, 0)
        for _ in range(250):
            sentence = draw_sentence(rng, 4, ("u",) if rng.random() < 0.3 else ())
            worlds = [draw_world(rng, size) for size in (1, 2, 3)]
            for place in places_in(sentence):
                for word in WORDS:
                    try:
                        after = step_result(word, sentence, place, "v")
                    except BadStep:
                        continue
                    seen[word] += 1
                    if word != "choose":
                        for world in worlds:
                            self.assertEqual(self.true_everywhere(world, after), self.true_everywhere(world, sentence))
        self.assertTrue(all(seen.values()), seen)

    def true_everywhere(self, world, sentence):
        names = free_unknowns(sentence)
        rows = itertools.product(world.things, repeat=len(names))
        return all(sentence_true(world, sentence, dict(zip(names, row))) for row in rows)

    def test_choose(self):
        rng = random.Random(4)
        small = Signature([("a", 0)], [("P", 1), ("R", 2)])
        for before in (every("x", some("y", RXY)), some("y", both(PY, every("x", RXY))),
                       either(Q, every("x", either(P, some("y", both(RXY, no(PY)))))),
                       every("x", some("y", both(S, RXY)))):
            place = next(place for place in places_in(before) if part_of(before, place)[0] == "some")
            arity = len(free_unknowns(part_of(before, place)))
            after = step_result("choose", before, place, "w")
            for _ in range(30):
                size = rng.randint(1, 3)
                signature = Signature(small.functions + (("w", arity),), small.relations + (("Q", 0),))
                world = draw_world(rng, size, signature)
                tables = itertools.product(range(size), repeat=size ** arity)
                found = [sentence_true(world.with_table("w", table), after) for table in tables]
                self.assertEqual(any(found), sentence_true(world, before))


class Runs(Case):
    """Point 48."""

    def test_negation_steps(self):
        sentence = every("x", ("iff", P, no(("implies", Q, P))))
        split = every("x", both(("implies", P, no(("implies", Q, P))), ("implies", no(("implies", Q, P)), P)))
        rows = self.call(negation_steps, sentence)
        self.assertEqual(rows[0], ("iff", (0,), split))
        self.assertEqual([row[:2] for row in rows], [
            ("iff", (0,)), ("implies", (0, 0)), ("not", (0, 0, 1)), ("implies", (0, 1)), ("not", (0, 1, 0)),
            ("implies", (0, 1, 0))])
        self.assertEqual(rows[-1][2], negation_form(sentence))
        self.gives([], negation_steps, both(P, no(Q)))

    def test_narrowing_steps(self):
        sentence = every("x", some("y", both(P, PY)))
        rows = [("narrow", (0,), every("x", both(P, some("y", PY)))),
                ("narrow", (), both(every("x", P), every("x", some("y", PY)))),
                ("narrow", (1,), both(every("x", P), some("y", PY)))]
        self.gives(rows, narrowing_steps, sentence)
        self.gives([], narrowing_steps, every("x", some("y", RXY)))

    def test_against_a_plain_search(self):
        rng = random.Random(5)
        for _ in range(120):
            sentence = draw_sentence(rng, 4, ("u",) if rng.random() < 0.3 else ())
            self.gives(until_none(sentence, ("implies", "iff", "not")), negation_steps, sentence)
            self.gives(until_none(sentence, ("narrow",)), narrowing_steps, sentence)
            form = negation_form(sentence)
            rows = until_none(form, ("narrow",))
            self.gives(rows, narrowing_steps, form)
            self.assertEqual(([(None, None, sentence)] + list(negation_steps(sentence)))[-1][2], form)

    def test_any_order_of_narrowing(self):
        rng = random.Random(6)
        for _ in range(120):
            sentence = negation_form(draw_sentence(rng, 4))
            now = sentence
            while True:
                rows = list(takeable(now, ("narrow",)))
                if not rows:
                    break
                now = rng.choice(rows)[2]
            self.assertEqual(([(None, None, sentence)] + list(narrowing_steps(sentence)))[-1][2], now)

    def test_long_runs(self):
        parts = [("holds", ("R", f"x{number % 9}", f"x{number % 8}")) for number in range(240)]
        while len(parts) > 1:
            parts = [both(*parts[at:at + 2]) if at + 1 < len(parts) else parts[at] for at in range(0, len(parts), 2)]
        sentence = parts[0]
        for number in range(9):
            sentence = every(f"x{number}", sentence)
        rows = self.call(narrowing_steps, sentence)
        self.assertEqual(next(takeable(rows[-1][2], ("narrow",)), None), None)
        world = World.blank(Signature([], [("R", 2)]), 2)
        self.assertIs(sentence_true(world, rows[-1][2]), False)
