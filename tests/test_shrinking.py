import itertools
import random

from tests.drawing import SIGNATURE as WIDE, Case, draw_world, state
from tests.test_kinds import SIGNATURE, book, draw_book
from tests.test_sorts import draw_single, parts, plain_case
from worldorpaper.books import Signature
from worldorpaper.errors import BadWorld, NotOfKind
from worldorpaper.going import worlds_of_size
from worldorpaper.kinds import enough, ground_terms, kinds_of, names_in
from worldorpaper.reading import read_book
from worldorpaper.shaping import negation_form
from worldorpaper.shrinking import cut_world, shrink
from worldorpaper.sorts import case_of, case_size
from worldorpaper.truth import book_true, sentence_true, term_value
from worldorpaper.worlds import World


def tables(world):
    return {name: world.table(name) for name, _ in world.signature.functions + world.signature.relations}


def plain_cut(world, things):
    """Point 132 as it stands."""
    found = {}
    for name, arity in world.signature.functions:
        values = [world.value(name, row) for row in itertools.product(things, repeat=arity)]
        found[name] = tuple(things.index(value) if value in things else 0 for value in values)
    for name, arity in world.signature.relations:
        found[name] = tuple(world.holds(name, row) for row in itertools.product(things, repeat=arity))
    return found


def witnesses(world, form, values):
    """Point 133 as it stands."""
    if form[0] == "and":
        return witnesses(world, form[1], values) | witnesses(world, form[2], values)
    if form[0] == "or":
        return witnesses(world, form[1] if sentence_true(world, form[1], values) else form[2], values)
    if form[0] == "some":
        thing = min(thing for thing in world.things if sentence_true(world, form[2], {**values, form[1]: thing}))
        return {thing} | witnesses(world, form[2], {**values, form[1]: thing})
    return set()


def plain_prefix(one, world):
    kept = {term_value(world, term, {}) for term in ground_terms(one)}
    for sentence in one.sentences:
        kept |= witnesses(world, negation_form(sentence), {})
    return plain_cut(world, sorted(kept or {0}))


def plain_single(one, world):
    """Point 134 as it stands."""
    _, marks, constants, depth = parts(one)
    named = {world.value(name, ()) for name in constants}
    sorts = {}
    for thing in world.things:
        if thing not in named:
            sorts.setdefault(tuple(world.holds(mark, (thing,)) for mark in marks), []).append(thing)
    kept = named.union(*[things[:depth] for things in sorts.values()])
    return plain_cut(world, sorted(kept))


def plain_linked(one, world):
    """Point 135 as it stands."""
    marks = [name for name in names_in(one) if name[0].isupper() and one.signature.arity(name) == 1]
    sort = {thing: tuple(world.holds(mark, (thing,)) for mark in marks) for thing in world.things}
    things = list(dict.fromkeys(sort[thing] for thing in world.things))
    found = {}
    for name, arity in world.signature.functions:
        found[name] = (0,) * len(things) ** arity if arity else (things.index(sort[world.value(name, ())]),)
    for name, arity in world.signature.relations:
        found[name] = tuple(any(world.holds(name, row) for row in itertools.product(world.things, repeat=arity)
                                if all(sort[thing] == wanted for thing, wanted in zip(row, sorts)))
                            for sorts in itertools.product(things, repeat=arity))
    return found


PLAIN = {"prefix": plain_prefix, "single": plain_single, "linked": plain_linked, "listed": lambda one,
         world: tables(world)}


class Cutting(Case):
    """Point 132."""

    def test_written_out(self):
        signature = Signature([("a", 0), ("f", 1)], [("Q", 0), ("R", 2)])
        world = World(signature, 3, {"a": [2], "f": [1, 2, 0], "Q": [True],
                                     "R": [True, False, True, False, False, False, False, True, True]})
        cut = self.call(cut_world, world, [0, 2])
        self.assertEqual(state(tables(cut)), state({"a": (1,), "f": (0, 0), "Q": (True,),
                                                    "R": (True, True, False, True)}))
        self.assertEqual((cut.size, cut.signature), (2, signature))
        # Values that are not among the things become 0.
        cut = self.call(cut_world, world, [0, 1])
        self.assertEqual(state(tables(cut)), state({"a": (0,), "f": (1, 0), "Q": (True,),
                                                    "R": (True, False, False, False)}))
        cut = self.call(cut_world, world, (1,))
        self.assertEqual(state(tables(cut)), state({"a": (0,), "f": (0,), "Q": (True,), "R": (False,)}))
        self.assertEqual(state(cut_world(world, [0, 1, 2])), state(world))

    def test_drawn(self):
        rng = random.Random(13201)
        for _ in range(60):
            world = draw_world(rng, rng.randint(1, 4), WIDE)
            things = sorted(rng.sample(world.things, rng.randint(1, world.size)))
            cut = self.call(cut_world, world, things)
            self.assertEqual(cut.size, len(things))
            self.assertEqual(state(tables(cut)), state(plain_cut(world, things)))


class Errors(Case):
    """Point 131."""

    def test_not_of_kind(self):
        world = World.blank(SIGNATURE, 2)
        for texts, words in [(("all x. x = f(x)",), ("listed", "prefix", "single", "linked")),
                             (("Q",), ("listed", "", "Single")),
                             (("P(f(a))",), ("single", "linked"))]:
            for word in words:
                self.fails(NotOfKind, shrink, book(*texts), word, world)

    def test_a_false_sentence(self):
        for word in ("prefix", "single", "linked"):
            self.fails(BadWorld, shrink, book("Q"), word, World.blank(SIGNATURE, 2))
            self.fails(BadWorld, shrink, book("not Q", "P(a)"), word, World.blank(SIGNATURE, 1))
        self.fails(BadWorld, shrink, book("all x. x = a"), "listed", World.blank(SIGNATURE, 2))
        # The kind is looked at first.
        self.fails(NotOfKind, shrink, book("Q"), "listed", World.blank(SIGNATURE, 2))


class Shrinking(Case):
    """Points 131 to 136."""

    def shrinks(self, one, word, world):
        small = self.call(shrink, one, word, world)
        self.assertEqual(state(tables(small)), state(PLAIN[word](one, world)))
        self.assertEqual((small.signature.functions, small.signature.relations),
                         (one.signature.functions, one.signature.relations))
        self.assertTrue(book_true(small, one))
        self.assertLessEqual(small.size, min(world.size, enough(one, word)) if word != "listed" else world.size)
        if word == "single":
            self.assertEqual(case_of(one, small), case_of(one, world))
            self.assertEqual(small.size, case_size(plain_case(one, world)))
        if word in ("single", "linked"):
            again = shrink(one, word, small)
            self.assertEqual(state((again.size, tables(again))), state((small.size, tables(small))))
        return small

    def test_listed(self):
        one = book("all x. x = a or x = f(a)")
        world = World.blank(SIGNATURE, 2).with_table("f", [1, 1])
        self.assertEqual(self.shrinks(one, "listed", world).size, 2)
        world = World.blank(SIGNATURE, 1)
        self.assertEqual(self.shrinks(one, "listed", world).size, 1)

    def test_prefix(self):
        one = book("some x. some y. R(x, y) and not P(y)", "all x. R(x, x) or P(b)")
        world = World.blank(SIGNATURE, 4).with_table("b", [3]).with_table("P", [False, False, True, True])
        entries = [False] * 16
        entries[4 + 2] = entries[8 + 0] = entries[8 + 1] = True
        small = self.shrinks(one, "prefix", world.with_table("R", entries))
        # The witnesses are 2 and 0, the constant is 3.
        self.assertEqual((small.size, small.table("b"), small.table("P")), (3, (2,), (False, True, True)))

    def test_prefix_keeps_what_terms_pass(self):
        one = book("f(f(a)) = b or Q")
        world = World.blank(SIGNATURE, 5).with_table("a", [4]).with_table("f", [0, 3, 0, 0, 1]).with_table("b", [3])
        small = self.shrinks(one, "prefix", world)
        self.assertEqual((small.size, small.table("a"), small.table("b"), small.table("f")), (3, (2,), (1,), (1, 0, 0)))

    def test_prefix_with_neither(self):
        one = book("all x. not P(x)", "Q or not some x. P(x)")
        world = World.blank(SIGNATURE, 3).with_table("M", [True, False, False])
        small = self.shrinks(one, "prefix", world)
        self.assertEqual((small.size, small.table("M")), (1, (True,)))
        self.assertEqual(self.shrinks(book(), "prefix", world).size, 1)

    def test_prefix_goes_left_where_it_is_true(self):
        one = book("(some x. P(x)) or some x. M(x)")
        world = World.blank(SIGNATURE, 3).with_table("M", [False, True, False])
        small = self.shrinks(one, "prefix", world)
        self.assertEqual((small.size, small.table("M")), (1, (True,)))
        small = self.shrinks(one, "prefix", world.with_table("P", [False, False, True]))
        self.assertEqual((small.size, small.table("M"), small.table("P")), (1, (False,), (True,)))

    def test_prefix_goes_through_both_sides_of_an_and(self):
        one = book("(some x. P(x)) and (some x. M(x)) and Q", "not ((all x. P(x)) or all x. M(x))")
        world = World.blank(SIGNATURE, 5).with_table("Q", [True]).with_table("P", [True, True, False, False, False])
        small = self.shrinks(one, "prefix", world.with_table("M", [True, False, True, False, True]))
        # The witnesses are 0, 0, 2 and 1.
        self.assertEqual((small.size, small.table("P"), small.table("M")), (3, (True, True, False),
            (True, False, True)))

    def test_single(self):
        one = book("some x. some y. x != y and P(x)", "a = a")
        world = World.blank(SIGNATURE, 6).with_table("a", [4]).with_table("P", [False, True, False, True, True, True])
        small = self.shrinks(one, "single", world)
        # The depth is 2: the things 0 and 2 without P, 1 and 3 with P, and a.
        self.assertEqual((small.size, small.table("a"), small.table("P")), (5, (4,), (False, True, False, True, True)))

    def test_single_without_binders(self):
        one = book("P(a)")
        world = World.blank(SIGNATURE, 4).with_table("a", [2]).with_table("P", [False, True, True, False])
        self.assertEqual(self.shrinks(one, "single", world).size, 1)
        self.assertEqual(self.shrinks(book("Q or not Q"), "single", World.blank(SIGNATURE, 4)).size, 1)

    def test_linked(self):
        one = book("all x. some y. R(x, y)", "some x. P(x)")
        world = World.blank(SIGNATURE, 3).with_table("P", [False, True, False]).with_table("b", [1])
        world = world.with_table("R", [False, True, False, False, False, True, True, False, False]).with_table("f",
            [1, 1, 1])
        small = self.shrinks(one, "linked", world.with_table("Q", [True]))
        self.assertEqual((small.size, small.table("P"), small.table("R"), small.table("b"), small.table("f"),
                          small.table("Q")),
                         (2, (False, True), (True, True, True, False), (1,), (0, 0), (True,)))
        # The sorts are in the order of the first things that have them.
        small = self.shrinks(one, "linked", world.with_table("P", [True, False, False]))
        self.assertEqual(small.table("P"), (True, False))

    def test_a_world_of_one_thing(self):
        for word in ("prefix", "single", "linked"):
            world = World.blank(SIGNATURE, 1).with_table("P", [True])
            self.assertEqual(state(tables(self.shrinks(book("some x. P(x)"), word, world))), state(tables(world)))

    def test_drawn(self):
        rng = random.Random(13101)
        seen = {word: 0 for word in PLAIN}
        smaller = dict(seen)
        for _ in range(2500):
            one = draw_book(rng) if rng.random() < 0.7 else draw_single(rng)
            world = draw_world(rng, rng.choice((1, 2, 3, 3, 4)), one.signature)
            words = kinds_of(one)
            for word in words:
                if book_true(world, one):
                    seen[word] += 1
                    smaller[word] += self.shrinks(one, word, world).size < world.size
        for word in PLAIN:
            self.assertGreater(seen[word], 3, seen)
        self.assertGreater(min(smaller["prefix"], smaller["single"], smaller["linked"]), 60)

    def test_all_worlds_of_a_book(self):
        one = read_book("function a 0\nrelation P 1\nrelation R 2\nsentence all x. all y. R(x, y) implies P(x)\n"
                        "sentence some x. R(x, a)")
        for world in worlds_of_size(one.signature, 2):
            if book_true(world, one):
                self.shrinks(one, "linked", world)
