import itertools
import random

from tests.drawing import SIGNATURE, Case, draw_sentence, draw_world, state
from worldorpaper.books import Signature
from worldorpaper.errors import BadWorld
from worldorpaper.going import world_number, worlds_of_size
from worldorpaper.likeness import alike, expanded, least_form, reduct, renamed
from worldorpaper.truth import sentence_true
from worldorpaper.worlds import World

MIDDLE = Signature([("a", 0), ("f", 1)], [("Q", 0), ("R", 2)])


def tables_of(world):
    return [world.table(name) for name, _ in world.signature.functions + world.signature.relations]


class Renamed(Case):
    """Point 36."""

    def test_written_out(self):
        world = World(MIDDLE, 3, {"a": [0], "f": [1, 1, 2], "Q": [True],
                                  "R": [True, False, False, False, False, True, False, False, False]})
        expected = World(MIDDLE, 3, {"a": [2], "f": [0, 1, 0], "Q": [True],
                                     "R": [False, True, False, False, False, False, False, False, True]})
        self.gives(expected, renamed, world, [2, 0, 1])
        self.gives(expected, renamed, world, (2, 0, 1))
        self.gives(world, renamed, world, (0, 1, 2))

    def test_every_entry(self):
        rng = random.Random(1)
        for size in (1, 2, 3, 4):
            world = draw_world(rng, size)
            places = rng.sample(range(size), size)
            moved = self.call(renamed, world, places)
            self.assertEqual((moved.size, moved.signature), (size, world.signature))
            for name, arity in SIGNATURE.functions:
                for row in itertools.product(range(size), repeat=arity):
                    there = [places[thing] for thing in row]
                    self.assertEqual(moved.value(name, there), places[world.value(name, row)])
            for name, arity in SIGNATURE.relations:
                for row in itertools.product(range(size), repeat=arity):
                    self.gives(world.holds(name, row), moved.holds, name, [places[thing] for thing in row])

    def test_same_sentences(self):
        rng = random.Random(2)
        for _ in range(120):
            world = draw_world(rng, rng.randint(1, 3))
            moved = renamed(world, rng.sample(range(world.size), world.size))
            sentence = draw_sentence(rng, 4, ())
            self.assertEqual(sentence_true(moved, sentence), sentence_true(world, sentence))

    def test_no_renaming(self):
        world = World.blank(MIDDLE, 3)
        for places in [(), [], (0,), (0, 1), (0, 1, 1), (0, 0, 0), (1, 2, 3), (0, 1, 3), (-1, 0, 1), (0, 1, -1),
                       (0, 1, 2, 3), (0, 1, 2, 2), (0, 1, 2, -1), [2, 1], (2, 1, 0, 0)]:
            self.fails(BadWorld, renamed, world, places)
        self.fails(BadWorld, renamed, World.blank(MIDDLE, 1), (1,))
        self.gives(World.blank(MIDDLE, 1), renamed, World.blank(MIDDLE, 1), [0])

    def test_places_are_not_kept(self):
        places = [1, 0]
        moved = renamed(World(MIDDLE, 2, {"a": [0], "f": [0, 0], "Q": [True], "R": [False] * 4}), places)
        before = state(moved)
        places[0] = 0
        self.assertEqual(state(moved), before)


class Alike(Case):
    """Point 37."""

    def test_renamed_worlds(self):
        rng = random.Random(3)
        for size in (1, 2, 3, 4, 5):
            world = draw_world(rng, size, MIDDLE)
            moved = renamed(world, rng.sample(range(size), size))
            self.gives(True, alike, world, moved)
            self.gives(True, alike, moved, world)
            self.gives(tables_of(least_form(world)), lambda one: tables_of(least_form(one)), moved)

    def test_all_pairs_of_small_worlds(self):
        signature = Signature([("f", 1)], [("P", 1)])
        for size in (1, 2, 3):
            worlds = list(worlds_of_size(signature, size))
            for first in worlds[::3]:
                tables = [tables_of(renamed(first, row)) for row in itertools.permutations(range(size))]
                for second in worlds:
                    self.assertIs(alike(first, second), tables_of(second) in tables)

    def test_least_form(self):
        signature = Signature([("a", 0), ("f", 1)], [("P", 1)])
        for size in (1, 2, 3):
            for world in list(worlds_of_size(signature, size))[::5]:
                numbers = [world_number(renamed(world, row)) for row in itertools.permutations(range(size))]
                least = self.call(least_form, world)
                self.assertEqual(world_number(least), min(numbers))
                self.gives(True, alike, world, least)
                self.gives(tables_of(least), lambda one: tables_of(least_form(one)), least)
        world = World(MIDDLE, 2, {"a": [1], "f": [0, 0], "Q": [True], "R": [True, False, False, False]})
        least = World(MIDDLE, 2, {"a": [0], "f": [1, 1], "Q": [True], "R": [False, False, False, True]})
        self.gives(least, least_form, world)

    def test_relations_count_in_the_least_number(self):
        signature = Signature([], [("P", 1), ("R", 2)])
        world = World(signature, 3, {"P": [True, False, True], "R": [False] * 8 + [True]})
        least = World(signature, 3, {"P": [False, True, True], "R": [False] * 8 + [True]})
        self.gives(least, least_form, world)

    def test_other_signatures(self):
        blank = World.blank(Signature([("a", 0), ("b", 0)], [("P", 1)]), 2)
        for functions, relations in [([("b", 0), ("a", 0)], [("P", 1)]), ([("a", 0)], [("P", 1)]),
                                     ([("a", 0), ("b", 0)], [("P", 1), ("Q", 0)]), ([("a", 0), ("b", 0)], [("P", 2)]),
                                     ([("a", 0), ("b", 0)], [("R", 1)]), ([("a", 0), ("c", 0)], [("P", 1)]),
                                     ([("a", 0), ("b", 0)], [])]:
            other = World.blank(Signature(functions, relations), 2)
            self.gives(False, alike, blank, other)
            self.gives(False, alike, other, blank)
        self.gives(True, alike, blank, World.blank(Signature([("a", 0), ("b", 0)], [("P", 1)]), 2))

    def test_other_sizes(self):
        for first, second in itertools.product((1, 2, 3), repeat=2):
            self.gives(first == second, alike, World.blank(MIDDLE, first), World.blank(MIDDLE, second))
        empty = Signature([], [])
        self.gives(False, alike, World(empty, 1, {}), World(empty, 2, {}))
        self.gives(True, alike, World(empty, 4, {}), World(empty, 4, {}))

    def test_unlike_worlds(self):
        signature = Signature([], [("R", 2)])
        path = [False] * 9
        path[1] = path[5] = True
        fork = [False] * 9
        fork[1] = fork[2] = True
        self.gives(False, alike, World(signature, 3, {"R": path}), World(signature, 3, {"R": fork}))

    def test_six_things(self):
        rng = random.Random(4)
        signature = Signature([("a", 0), ("h", 3)], [("S", 3)])
        world = draw_world(rng, 6, signature)
        moved = renamed(world, (3, 5, 0, 1, 4, 2))
        self.gives(True, alike, world, moved)
        self.gives(tables_of(least_form(world)), lambda one: tables_of(least_form(one)), moved)


class Reduct(Case):
    """Point 41."""

    def test_reduct(self):
        world = World(MIDDLE, 2, {"a": [1], "f": [1, 0], "Q": [True], "R": [True, False, False, True]})
        small = Signature([("f", 1)], [("Q", 0)])
        self.gives(World(small, 2, {"f": [1, 0], "Q": [True]}), reduct, world, small)
        self.gives(world, reduct, world, MIDDLE)
        self.gives(World(Signature([], []), 2, {}), reduct, world, Signature([], []))
        turned = Signature([("f", 1), ("a", 0)], [("R", 2), ("Q", 0)])
        self.assertEqual(tables_of(self.call(reduct, world, turned)),
                         [(1, 0), (1,), (True, False, False, True), (True,)])

    def test_names_that_are_not_listed(self):
        world = World.blank(MIDDLE, 2)
        for functions, relations in [([("b", 0)], []), ([("a", 1)], []), ([("f", 0)], []), ([], [("P", 1)]),
                                     ([], [("R", 1)]), ([("a", 0), ("f", 2)], []), ([("a", 0)], [("Q", 0), ("R", 3)])]:
            self.fails(BadWorld, reduct, world, Signature(functions, relations))

    def test_other_arities_in_a_world_of_one_thing(self):
        # With one thing, tables have one entry whatever the arity is.
        world = World.blank(MIDDLE, 1)
        for functions, relations in [([("a", 1)], []), ([("f", 0)], []), ([], [("Q", 1)]), ([], [("R", 1)])]:
            self.fails(BadWorld, reduct, world, Signature(functions, relations))
            self.fails(BadWorld, expanded, reduct(world, Signature([], [])), Signature(functions, relations), {})
        self.gives(World.blank(Signature([("f", 1)], []), 1), reduct, world, Signature([("f", 1)], []))
        small = World.blank(Signature([("f", 1)], [("Q", 0)]), 1)
        for functions, relations in [([("f", 0)], [("Q", 0)]), ([("f", 2)], [("Q", 0)]), ([("f", 1)], [("Q", 1)])]:
            self.fails(BadWorld, expanded, small, Signature(functions, relations), {})

    def test_expanded(self):
        small = Signature([("f", 1)], [("Q", 0)])
        world = World(small, 2, {"f": [1, 0], "Q": [True]})
        expected = World(MIDDLE, 2, {"a": [1], "f": [1, 0], "Q": [True], "R": [True, False, False, True]})
        tables = {"R": (True, False, False, True), "a": [1]}
        self.gives(expected, expanded, world, MIDDLE, tables)
        self.gives(world, expanded, world, small, {})
        self.gives(world, reduct, expanded(world, MIDDLE, tables), small)

    def test_wrong_expansions(self):
        small = Signature([("f", 1)], [("Q", 0)])
        world = World(small, 2, {"f": [1, 0], "Q": [True]})
        right = {"a": [1], "R": [False] * 4}
        for tables in [{"a": [1]}, {"R": [False] * 4}, {}, {**right, "b": [0]}, {**right, "a": [2]},
                       {**right, "a": [-1]}, {**right, "a": []}, {**right, "R": [False] * 5},
                       {**right, "f": [1, 0]}, {**right, "Q": [True]}, {**right, "Q": [False]}]:
            self.fails(BadWorld, expanded, world, MIDDLE, tables)
        self.fails(BadWorld, expanded, world, small, {"f": [1, 0]})
        self.fails(BadWorld, expanded, world, Signature([("a", 0)], [("Q", 0)]), {"a": [0]})
        self.fails(BadWorld, expanded, world, Signature([("f", 2)], [("Q", 0)]), {})
        self.fails(BadWorld, expanded, world, Signature([("f", 1)], []), {})
        self.fails(BadWorld, expanded, world, Signature([("f", 1)], [("Q", 1)]), {"Q": [True, True]})

    def test_same_sentences(self):
        rng = random.Random(5)
        small = Signature([("a", 0), ("f", 1)], [("P", 1), ("R", 2)])
        for _ in range(60):
            world = draw_world(rng, rng.randint(1, 3))
            less = reduct(world, small)
            self.assertEqual(tables_of(expanded(less, SIGNATURE, {name: world.table(name) for name in "bghQS"})),
                             tables_of(world))
            sentence = ("all", "x", ("some", "y", ("iff", ("holds", ("R", "x", ("f", "y"))), ("holds", ("P", ("a",))))))
            self.assertEqual(sentence_true(less, sentence), sentence_true(world, sentence))
