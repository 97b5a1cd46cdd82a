import itertools
import random

from tests.drawing import SIGNATURE, Case, draw_world, state
from worldorpaper.books import Signature
from worldorpaper.errors import BadWorld
from worldorpaper.going import count_worlds, world_at, world_number, worlds_of_size
from worldorpaper.worlds import World

EMPTY = Signature([], [])
SMALL = [
    EMPTY,
    Signature([("a", 0)], []),
    Signature([("a", 0), ("b", 0)], [("Q", 0)]),
    Signature([("f", 1)], [("P", 1)]),
    Signature([("f", 1), ("a", 0)], [("Q", 0), ("P", 1)]),
    Signature([], [("R", 2)]),
    Signature([("g", 2)], [("Q", 0)]),
]


def entries_of(world):
    rows = [world.table(name) for name, _ in world.signature.functions + world.signature.relations]
    return tuple(entry for row in rows for entry in row)


def choices_of(signature, size):
    rows = [tuple(range(size))] * sum(size ** arity for _, arity in signature.functions)
    return rows + [(False, True)] * sum(size ** arity for _, arity in signature.relations)


class Counting(Case):
    """Point 35: the count."""

    def test_counts(self):
        self.gives(1, count_worlds, EMPTY, 1)
        self.gives(1, count_worlds, EMPTY, 12)
        self.gives(3, count_worlds, Signature([("a", 0)], []), 3)
        self.gives(4 ** 4, count_worlds, Signature([("f", 1)], []), 4)
        self.gives(3 ** 9 * 2 ** 27, count_worlds, Signature([("g", 2)], [("S", 3)]), 3)
        self.gives(2 ** 4, count_worlds, Signature([], [("R", 2)]), 2)
        self.gives(2 * 2, count_worlds, Signature([("a", 0)], [("Q", 0)]), 2)

    def test_any_size(self):
        for size in (1, 2, 3, 4, 12):
            functions = sum(size ** arity for _, arity in SIGNATURE.functions)
            relations = sum(size ** arity for _, arity in SIGNATURE.relations)
            self.gives(size ** functions * 2 ** relations, count_worlds, SIGNATURE, size)


class Numbers(Case):
    """Point 35: numbers and worlds."""

    def test_written_out(self):
        signature = Signature([("f", 1), ("a", 0)], [("Q", 0), ("P", 1)])
        world = World(signature, 3, {"f": [2, 0, 1], "a": [1], "Q": [True], "P": [False, True, False]})
        number = ((((((2 * 3 + 0) * 3 + 1) * 3 + 1) * 2 + 1) * 2 + 0) * 2 + 1) * 2 + 0
        self.gives(number, world_number, world)
        self.assertEqual(state(self.call(world_at, signature, 3, number)), state(world))

    def test_blank_world_is_the_first(self):
        for size in (1, 2, 3):
            self.gives(0, world_number, World.blank(SIGNATURE, size))
            self.assertEqual(state(world_at(SIGNATURE, size, 0)), state(World.blank(SIGNATURE, size)))
            last = world_at(SIGNATURE, size, count_worlds(SIGNATURE, size) - 1)
            self.assertEqual(entries_of(last), tuple(row[-1] for row in choices_of(SIGNATURE, size)))
            self.gives(count_worlds(SIGNATURE, size) - 1, world_number, last)

    def test_back_and_forth(self):
        rng = random.Random(35)
        for size in (1, 2, 3, 5, 12):
            count = count_worlds(SIGNATURE, size)
            for number in [0, count // 2, count - 1] + [rng.randrange(count) for _ in range(4)]:
                world = self.call(world_at, SIGNATURE, size, number)
                self.gives(size, lambda: world.size)
                self.assertIs(world.signature, SIGNATURE)
                self.gives(number, world_number, world)
        for _ in range(30):
            world = draw_world(rng, rng.randint(1, 4))
            self.assertEqual(state(world_at(SIGNATURE, world.size, world_number(world))), state(world))

    def test_refused(self):
        for signature in SMALL + [SIGNATURE]:
            for size in (1, 2, 3):
                count = count_worlds(signature, size)
                for number in (-1, -2, -count, -count - 1, count, count + 1, 2 * count):
                    self.fails(BadWorld, world_at, signature, size, number)
            for size in (0, -1, -2):
                for number in (0, 1, -1):
                    self.fails(BadWorld, world_at, signature, size, number)


class GoingThrough(Case):
    """Point 35: worlds_of_size."""

    def test_every_world_once_in_order(self):
        for signature in SMALL:
            for size in (1, 2, 3):
                if count_worlds(signature, size) > 2000:
                    continue
                worlds = self.call(worlds_of_size, signature, size)
                self.assertEqual([world_number(world) for world in worlds], list(range(count_worlds(signature, size))))
                expected = list(itertools.product(*choices_of(signature, size)))
                self.assertEqual(state([entries_of(world) for world in worlds]), state(expected))
                for number, world in enumerate(worlds):
                    self.assertEqual(state(world), state(world_at(signature, size, number)))

    def test_no_list_of_all(self):
        worlds = iter(worlds_of_size(SIGNATURE, 12))
        for number in range(3):
            self.gives(number, world_number, next(worlds))
