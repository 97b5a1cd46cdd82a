import itertools
import random

from tests.drawing import SIGNATURE, Case, draw_world, state
from worldorpaper.books import Signature
from worldorpaper.errors import BadWorld, UnknownName
from worldorpaper.worlds import World, world_text

PAIR = Signature([("a", 0), ("f", 1)], [("R", 2)])
TABLES = {"a": [1], "f": [1, 0], "R": [False, True, False, False]}


def with_tables(**tables):
    return {**TABLES, **tables}


class Tables(Case):
    """Points 29 and 30."""

    def test_every_cell(self):
        for size in (1, 2, 3):
            world = draw_world(random.Random(size), size)
            for name, arity in SIGNATURE.functions + SIGNATURE.relations:
                cells = list(itertools.product(range(size), repeat=arity))
                ask = world.value if name[0].islower() else world.holds
                self.gives(tuple(ask(name, cell) for cell in cells), world.table, name)
                self.assertEqual(len(world.table(name)), size ** arity)

    def test_first_member_counts_most(self):
        signature = Signature([("g", 2)], [("S", 3)])
        s = [False] * 27
        s[0 * 9 + 1 * 3 + 2] = True
        world = self.call(World, signature, 3, {"g": [0, 1, 2, 1, 2, 0, 2, 2, 1], "S": s})
        self.gives(1, world.value, "g", (0, 1))
        self.gives(1, world.value, "g", [1, 0])
        self.gives(0, world.value, "g", (1, 2))
        self.gives(2, world.value, "g", (2, 1))
        self.gives(True, world.holds, "S", (0, 1, 2))
        self.gives(False, world.holds, "S", [2, 1, 0])
        self.gives(False, world.holds, "S", (0, 2, 1))

    def test_attributes(self):
        world = self.call(World, PAIR, 2, TABLES)
        self.assertIs(world.signature, PAIR)
        self.gives(2, lambda: world.size)
        self.gives((0, 1), lambda: world.things)
        self.gives((0,), lambda: World.blank(PAIR, 1).things)
        self.gives((1,), world.table, "a")
        self.gives((1, 0), world.table, "f")
        self.gives((False, True, False, False), world.table, "R")
        self.gives(1, world.value, "a", ())
        self.gives(1, world.value, "a", [])

    def test_lists_and_tuples(self):
        tuples = {name: tuple(entries) for name, entries in TABLES.items()}
        self.assertEqual(state(World(PAIR, 2, tuples)), state(World(PAIR, 2, TABLES)))

    def test_later_changes_have_no_effect(self):
        tables = {name: list(entries) for name, entries in TABLES.items()}
        world = World(PAIR, 2, tables)
        tables["f"][0] = 0
        tables["R"].append(True)
        del tables["a"]
        self.gives((1, 0), world.table, "f")
        self.gives((False, True, False, False), world.table, "R")
        self.gives((1,), world.table, "a")

    def test_order_of_the_dict_does_not_matter(self):
        turned = {name: TABLES[name] for name in ("R", "f", "a")}
        self.assertEqual(state(World(PAIR, 2, turned)), state(World(PAIR, 2, TABLES)))
        self.gives(world_text(World(PAIR, 2, TABLES)), world_text, World(PAIR, 2, turned))

    def test_no_names(self):
        self.gives((0, 1, 2, 3), lambda: World(Signature([], []), 4, {}).things)


class BadWorlds(Case):
    """Point 30: what World refuses."""

    def test_sizes(self):
        for size in (0, -1, -2):
            self.fails(BadWorld, World, Signature([], []), size, {})
            self.fails(BadWorld, World, PAIR, size, TABLES)
            self.fails(BadWorld, World, Signature([], [("Q", 0)]), size, {"Q": [True]})
            self.fails(BadWorld, World, Signature([], [("P", 1)]), size, {"P": []})

    def test_missing_tables(self):
        for name in TABLES:
            self.fails(BadWorld, World, PAIR, 2, {other: TABLES[other] for other in TABLES if other != name})
        self.fails(BadWorld, World, PAIR, 2, {})

    def test_other_tables(self):
        for name in ("b", "S", "x", ""):
            self.fails(BadWorld, World, PAIR, 2, {**TABLES, name: [0]})
            self.fails(BadWorld, World, PAIR, 2, {**TABLES, name: []})
        self.fails(BadWorld, World, Signature([], []), 1, {"a": [0]})
        others = {other: TABLES[other] for other in TABLES if other != "a"}
        self.fails(BadWorld, World, PAIR, 2, {**others, "b": [0]})

    def test_numbers_of_entries(self):
        for tables in [with_tables(a=[]), with_tables(a=[1, 1]), with_tables(f=[0]), with_tables(f=[0, 0, 0]),
                       with_tables(f=[]), with_tables(R=[False] * 3), with_tables(R=[True] * 5), with_tables(R=[])]:
            self.fails(BadWorld, World, PAIR, 2, tables)
        self.fails(BadWorld, World, PAIR, 1, TABLES)
        self.fails(BadWorld, World, PAIR, 3, TABLES)

    def test_entries_that_are_no_things(self):
        for entry in (-1, 2, 3, -2, True, False, None, "0", (0,)):
            self.fails(BadWorld, World, PAIR, 2, with_tables(a=[entry]))
            self.fails(BadWorld, World, PAIR, 2, with_tables(f=[entry, 0]))
            self.fails(BadWorld, World, PAIR, 2, with_tables(f=[0, entry]))


class Asking(Case):
    """Point 30: value, holds, table, with_table and blank."""

    def setUp(self):
        self.world = World(PAIR, 2, TABLES)

    def test_unknown_names(self):
        for name in ("R", "b", "", "x", "F"):
            for args in [(), (0,), (0, 0), (5, 5, 5, 5)]:
                self.fails(UnknownName, self.world.value, name, args)
        for name in ("a", "f", "S", "", "r"):
            for args in [(), (0,), (0, 0), (5, 5, 5, 5)]:
                self.fails(UnknownName, self.world.holds, name, args)
        for name in ("b", "S", ""):
            self.fails(UnknownName, self.world.table, name)
            self.fails(UnknownName, self.world.with_table, name, [0])
            self.fails(UnknownName, self.world.with_table, name, [7, 7, 7])

    def test_wrong_args(self):
        for args in [(), (0, 0), (0, 0, 0), (-1,), (2,), (-2,), (True,), (False,)]:
            self.fails(BadWorld, self.world.value, "f", args)
            self.fails(BadWorld, self.world.value, "f", list(args))
        for args in [(), (0,), (0, 0, 0), (-1, 0), (0, -1), (2, 0), (0, 2), (1, 7), (0, True)]:
            self.fails(BadWorld, self.world.holds, "R", args)
        for args in [(0,), (-1,), (0, 0)]:
            self.fails(BadWorld, self.world.value, "a", args)

    def test_with_table(self):
        for entries in ([0, 0], (0, 0)):
            other = self.call(self.world.with_table, "f", entries)
            self.gives((0, 0), other.table, "f")
            self.gives((1,), other.table, "a")
            self.gives(self.world.table("R"), other.table, "R")
            self.assertEqual((other.size, other.signature), (2, PAIR))
        self.gives((1, 0), self.world.table, "f")
        self.gives((True,) * 4, self.world.with_table("R", [True] * 4).table, "R")
        self.gives((0,), self.world.with_table("a", [0]).table, "a")

    def test_with_table_takes_no_later_changes(self):
        entries = [0, 0]
        other = self.world.with_table("f", entries)
        entries[0] = 1
        self.gives((0, 0), other.table, "f")

    def test_with_table_refuses(self):
        for entries in [[], [0], [0, 0, 0], [0, 2], [-1, 0]]:
            self.fails(BadWorld, self.world.with_table, "f", entries)
        for entries in [[], [True], [True] * 3, [True] * 5]:
            self.fails(BadWorld, self.world.with_table, "R", entries)

    def test_blank(self):
        for size in (1, 2, 3):
            world = self.call(World.blank, SIGNATURE, size)
            self.gives(size, lambda: world.size)
            for name, arity in SIGNATURE.functions:
                self.gives((0,) * size ** arity, world.table, name)
            for name, arity in SIGNATURE.relations:
                self.gives((False,) * size ** arity, world.table, name)
        self.assertIs(world.signature, SIGNATURE)
        for size in (0, -1, -3):
            for signature in (SIGNATURE, PAIR, Signature([], []), Signature([], [("P", 1)])):
                self.fails(BadWorld, World.blank, signature, size)


class Texts(Case):
    """Point 33."""

    def test_the_example(self):
        signature = Signature([("a", 0), ("succ", 1)], [("Less", 2)])
        world = World(signature, 2, {"a": [1], "succ": [1, 0], "Less": [False, True, False, False]})
        self.gives("things 2\na    = 1\nsucc = 1 0\nLess =  no yes,  no  no", world_text, world)

    def test_one_thing(self):
        signature = Signature([("a", 0), ("h", 3)], [("Q", 0), ("Long", 2)])
        self.gives("things 1\na    = 0\nh    = 0\nQ    = no\nLong = no", world_text, World.blank(signature, 1))

    def test_no_names(self):
        self.gives("things 3", world_text, World.blank(Signature([], []), 3))

    def test_width_of_each_table(self):
        signature = Signature([("f", 1), ("g", 1)], [("P", 1), ("R", 1), ("T", 1)])
        world = World(signature, 11, {
            "f": [10] + [3] * 10, "g": list(range(10)) + [9], "P": [True] + [False] * 10, "R": [False] * 11,
            "T": [True] * 11,
        })
        expected = [
            "things 11",
            "f = 10  3  3  3  3  3  3  3  3  3  3",
            "g = 0 1 2 3 4 5 6 7 8 9 9",
            "P = yes  no  no  no  no  no  no  no  no  no  no",
            "R = no no no no no no no no no no no",
            "T = yes yes yes yes yes yes yes yes yes yes yes",
        ]
        self.gives("\n".join(expected), world_text, world)

    def test_commas(self):
        signature = Signature([("a", 0), ("f", 1), ("g", 2), ("h", 3)], [])
        world = World(signature, 2, {"a": [0], "f": [0, 1], "g": [0, 1, 1, 0], "h": [0, 1, 1, 0, 1, 1, 0, 0]})
        self.gives("things 2\na = 0\nf = 0 1\ng = 0 1, 1 0\nh = 0 1, 1 0, 1 1, 0 0", world_text, world)

    def test_two_digits_and_commas(self):
        signature = Signature([("g", 2), ("longername", 0)], [])
        entries = [0] * 144
        entries[143] = 11
        world = World(signature, 12, {"g": entries, "longername": [11]})
        lines = self.call(world_text, world).split("\n")
        row = " ".join([" 0"] * 12)
        self.assertEqual(lines[1], "g          = " + ", ".join([row] * 11) + ", " + row[:-2] + "11")
        self.assertEqual(lines[2], "longername = 11")
