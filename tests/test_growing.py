import random

from tests.drawing import SIGNATURE, Case, clause, draw_clauses, no, state, yes
from worldorpaper.books import Signature
from worldorpaper.clauses import clause_unknowns
from worldorpaper.going import worlds_of_size
from worldorpaper.growing import Grower, grow, most_nodes
from worldorpaper.partial import Partial, instances
from worldorpaper.truth import clauses_true
from worldorpaper.worlds import World

A, B, X, Y = ("a",), ("b",), "x", "y"
FX, FA = ("f", "x"), ("f", ("a",))
# Without a constant, and so small that all worlds of a few things can be gone through.
BARE = Signature([("f", 1)], [("P", 1), ("Q", 0)])
SMALL = Signature([("a", 0), ("b", 0), ("f", 1)], [("P", 1)])
PAIR = Signature([("a", 0)], [("R", 2)])
PICKS = [(), (0,), (1,), (3, 0), (2, 5, 1), (7, 7, 0, 4)]


class PlainGrower:
    """Points 91 to 94 as they stand, without a look at what was read before."""

    def __init__(self, signature, clauses, limit, picks, elder_every):
        self.signature, self.clauses, self.limit = signature, clauses, limit
        self.picks, self.elder_every = picks, elder_every
        self.opened, self.world, self.beyond = 0, None, False
        self.tree = self.node(Partial(signature, clauses), 0)
        if self.world is not None:
            self.tree, self.beyond = None, False

    def node(self, partial, depth):
        if self.world is not None:
            return None
        self.opened += 1
        cells = []
        rows = []
        for index, things in instances(self.clauses, partial.size):
            values = dict(zip(clause_unknowns(self.clauses[index]), things))
            rows.append((index, things) + partial.read_clause(self.clauses[index], values))
        for index, things, word, found in rows:
            if word == "is" and found is False:
                return ("false", index, things)
            if word == "blocked":
                cells.extend(cell for cell in found if cell not in cells)
        if not cells:
            self.world = self.filled_up(partial)
            return None
        cell = self.choose(cells, depth)
        children = []
        for entry in partial.ways(cell):
            is_function = self.signature.has_function(cell[0])
            if is_function and partial.size == self.limit and entry == partial.size:
                self.beyond = True
                children.append(("beyond",))
            else:
                children.append(self.node(partial.with_cell(cell, entry), depth + 1))
        return ("cell", cell[0], cell[1], tuple(children))

    def choose(self, cells, depth):
        if self.elder_every >= 1 and (depth + 1) % self.elder_every == 0:
            return sorted(cells, key=lambda cell: max(cell[1]) if cell[1] else -1)[0]
        return cells[self.picks[depth % len(self.picks)] % len(cells)] if self.picks else cells[0]

    def filled_up(self, partial):
        world = World.blank(self.signature, partial.size)
        for (name, things), entry in partial:
            table = list(world.table(name))
            table[sum(thing * partial.size ** place for place, thing in enumerate(reversed(things)))] = entry
            world = world.with_table(name, table)
        return world


def outcome(grower):
    world = None if grower.world is None else state(grower.world)
    return world, state(grower.tree), grower.beyond, grower.opened


class Example(Case):
    """Point 93."""

    def test_the_tree_of_the_document(self):
        clauses = [clause(no(A, B)), clause(yes(X, Y))]
        signature = Signature([("a", 0), ("b", 0)], [])
        grower = self.call(grow, signature, clauses, 2)
        self.assertEqual(state(grower.tree), state(("cell", "b", (), (("false", 0, ()), ("false", 1, (0, 1))))))
        self.assertEqual((grower.opened, grower.world, grower.beyond, grower.limit), (3, None, False, 2))

    def test_beyond(self):
        signature = Signature([("a", 0), ("b", 0)], [])
        grower = self.call(grow, signature, [clause(no(A, B))], 1)
        self.assertEqual(grower.tree, ("cell", "b", (), (("false", 0, ()), ("beyond",))))
        # The leaf beyond is not opened.
        self.assertEqual((grower.opened, grower.beyond, grower.world), (2, True, None))

    def test_a_leaf_at_the_root(self):
        for clauses in [[()], [clause(no(A, A))], [clause(no(X, X))]]:
            grower = self.call(grow, SIGNATURE, clauses, 3)
            things = (0,) if clauses[0] == clause(no(X, X)) else ()
            self.assertEqual((grower.tree, grower.opened, grower.beyond), (("false", 0, things), 1, False))

    def test_the_first_false_instance_comes_before_the_open_ones(self):
        clauses = [clause(yes(("P", X))), clause(no(X, X)), ()]
        self.assertEqual(grow(SIGNATURE, clauses, 2).tree, ("false", 1, (0,)))

    def test_false_instances_of_new_and_of_older_things(self):
        # With the new thing 1 the first clause is false for both things, the second one for the thing 0.
        clauses = [clause(yes(X, Y)), clause(yes(FX, X)), clause(no(("f", FX), X))]
        tree = ("cell", "f", (0,), (("false", 2, (0,)), ("false", 0, (0, 1))))
        self.assertEqual(grow(BARE, clauses, 2).tree, tree)
        # The other way round, the older instance comes first.
        self.assertEqual(grow(BARE, clauses[1:2] + clauses[:1] + clauses[2:], 2).tree[3][1], ("false", 0, (0,)))

    def test_a_world_at_the_root(self):
        for clauses in [[], (), [clause(yes(X, X))], [clause(yes(A, A))], [clause(yes(X, Y))]]:
            grower = self.call(grow, SIGNATURE, clauses, 2)
            self.assertEqual((grower.opened, grower.tree, grower.beyond), (1, None, False))
            self.assertEqual(state(grower.world), state(World.blank(SIGNATURE, 1)))


class World94(Case):
    """Point 94: entries that are not decided are 0 and False."""

    def test_the_other_cells(self):
        clauses = [clause(no(A, B)), clause(yes(("P", B)))]
        world = grow(SIGNATURE, clauses, 3).world
        self.assertEqual(world.size, 2)
        self.assertEqual((world.table("a"), world.table("b"), world.table("f")), ((0,), (1,), (0, 0)))
        self.assertEqual(state(world.table("P")), state((False, True)))
        self.assertEqual(state(world.table("Q")), state((False,)))
        self.assertEqual(set(world.table("S")), {False})
        self.assertEqual(world.signature, SIGNATURE)

    def test_a_start_without_things_that_are_named(self):
        world = grow(BARE, [clause(no(FX, X))], 2).world
        self.assertEqual((world.size, world.table("f")), (2, (1, 0)))


class Choices(Case):
    """Point 92."""

    CLAUSES = [clause(yes(("P", A)), yes(("Q",))), clause(yes(("R", B, A)), yes(("P", A)))]

    def cell_at_root(self, clauses, **more):
        grower = self.call(Grower, SIGNATURE, clauses, 2, **more)
        while not grower.has_ended() and grower.opened < 1000:
            grower.step()
        reference = PlainGrower(SIGNATURE, clauses, 2, more.get("picks", ()), more.get("elder_every", 0))
        self.assertEqual(outcome(grower), outcome(reference))
        return None if grower.tree is None else grower.tree[1:3]

    def test_picks_name_the_blocking_cells(self):
        clauses = self.CLAUSES + [clause(yes(("P", X))), clause(no(("P", A)))]
        cells = [("P", (0,)), ("Q", ()), ("b", ())]
        for pick in range(7):
            self.assertEqual(self.cell_at_root(clauses, picks=(pick,)), cells[pick % 3])
            self.assertEqual(self.cell_at_root(clauses, picks=[pick, 1]), cells[pick % 3])
        self.assertEqual(self.cell_at_root(clauses), cells[0])

    def test_the_eldest_cell(self):
        # The cells are P at 0, Q without things, and b without things.
        clauses = self.CLAUSES + [clause(yes(("P", X))), clause(no(("P", A)))]
        self.assertEqual(self.cell_at_root(clauses, elder_every=1), ("Q", ()))
        self.assertEqual(self.cell_at_root(clauses, elder_every=1, picks=(2,)), ("Q", ()))
        # Every second time begins with the second one.
        self.assertEqual(self.cell_at_root(clauses, elder_every=2, picks=(2,)), ("b", ()))

    def test_eldest_by_the_greatest_thing(self):
        # At the second node the things are 0 and 1, and the cells P at 1, R at 0 and 0, P at 0, and others.
        clauses = [clause(no(A, B)), clause(yes(("P", B)), yes(("R", A, A))), clause(no(("P", X))),
                   clause(no(("R", X, Y)))]
        tree = grow(SIGNATURE, clauses, 2, elder_every=2).tree
        self.assertEqual(tree[1:3], ("b", ()))
        self.assertEqual(tree[3][1][1:3], ("R", (0, 0)))
        self.assertEqual(grow(SIGNATURE, clauses, 2).tree[3][1][1:3], ("P", (1,)))
        # A thing beside an older one counts, wherever it stands.
        clauses[1] = clause(yes(("P", B)), yes(("R", A, B)), yes(("R", B, A)))
        tree = grow(SIGNATURE, clauses, 2, elder_every=2).tree
        self.assertEqual(tree[3][1][1:3], ("P", (0,)))

    def test_arguments_can_change_later(self):
        clauses = [clause(no(A, B)), clause(yes(X, Y))]
        picks = [0]
        grower = Grower(SIGNATURE, clauses, 2, picks=picks)
        clauses.clear()
        picks[0] = 5
        picks.append(1)
        while not grower.has_ended():
            grower.step()
        self.assertEqual(grower.tree, ("cell", "b", (), (("false", 0, ()), ("false", 1, (0, 1)))))


class Steps(Case):
    """Points 91 to 94 and 97."""

    def test_as_the_points_stand(self):
        rng = random.Random(9101)
        closed = beyond = worlds = 0
        for _ in range(600):
            signature = rng.choice((BARE, SMALL, PAIR, SIGNATURE))
            clauses = draw_clauses(rng, 5, signature)
            limit, picks, elder = rng.randint(1, 3), rng.choice(PICKS), rng.randint(0, 3)
            grower = Grower(signature, clauses, limit, picks=picks, elder_every=elder)
            self.assertEqual((grower.opened, grower.world, grower.tree, grower.beyond), (0, None, None, False))
            while not grower.has_ended() and grower.opened < 300:
                before = grower.opened
                self.assertEqual((grower.world, grower.tree, grower.beyond), (None, None, False))
                self.assertIsNone(grower.step())
                self.assertEqual(grower.opened, before + 1)
            if not grower.has_ended():
                continue
            expected = outcome(PlainGrower(signature, clauses, limit, picks, elder))
            self.assertEqual(outcome(grower), expected)
            self.assertEqual(outcome(self.call(grow, signature, tuple(clauses), limit, picks=picks, elder_every=elder)),
                             expected)
            self.assertEqual(grower.limit, limit)
            closed += grower.tree is not None and not grower.beyond
            beyond += grower.beyond
            worlds += grower.world is not None
            if grower.world is not None:
                self.assertTrue(clauses_true(grower.world, clauses))
            # Further steps do nothing.
            grower.step()
            self.assertEqual(outcome(grower), expected)
        self.assertGreater(min(closed, beyond, worlds), 30)

    def test_what_is_counted(self):
        def count(tree):
            return sum(count(child) for child in tree[3]) + 1 if tree[0] == "cell" else int(tree[0] == "false")
        clauses = [clause(no(FX, X)), clause(no(("f", FX), X)), clause(yes(("P", X), ), yes(("P", FX))),
                   clause(no(("P", X)), no(("P", FX)))]
        grower = grow(SMALL, clauses, 3)
        self.assertTrue(grower.beyond)
        self.assertEqual(grower.opened, count(grower.tree))


class Bound(Case):
    """Point 95."""

    def test_most_nodes(self):
        self.gives(2, most_nodes, Signature([], []), 1)
        self.gives(9, most_nodes, Signature([], []), 8)
        self.gives(2 ** 3, most_nodes, PAIR, 1)
        self.gives(3 ** 6, most_nodes, PAIR, 2)
        self.gives(4 ** 11, most_nodes, PAIR, 3)
        self.gives(3 ** (1 + 1 + 2 + 4 + 8 + 1 + 2 + 4 + 8 + 1), most_nodes, SIGNATURE, 2)

    def test_it_is_never_reached(self):
        rng = random.Random(9501)
        for _ in range(150):
            signature = rng.choice((PAIR, Signature([("a", 0), ("b", 0)], [("P", 1)])))
            clauses = draw_clauses(rng, 5, signature)
            for limit in (1, 2):
                grower = grow(signature, clauses, limit, picks=rng.choice(PICKS), elder_every=rng.randint(0, 2))
                self.assertLess(grower.opened, most_nodes(signature, limit))


class Verdicts(Case):
    """Points 96 and 98."""

    def test_all_worlds_are_gone_through(self):
        rng = random.Random(9601)
        counts = {True: 0, False: 0}
        for _ in range(120):
            signature = rng.choice((BARE, PAIR, Signature([("a", 0), ("b", 0)], [("P", 1)])))
            clauses = draw_clauses(rng, 5, signature)
            sizes = [size for size in (1, 2, 3)
                     if any(clauses_true(world, clauses) for world in worlds_of_size(signature, size))]
            for limit in (1, 2, 3):
                for picks in PICKS[::2]:
                    grower = grow(signature, clauses, limit, picks=picks, elder_every=rng.randint(0, 2))
                    exists = any(size <= limit for size in sizes)
                    self.assertEqual(grower.world is not None, exists)
                    self.assertEqual(grower.tree is None, exists)
                    counts[exists] += 1
                    if grower.tree is not None and not grower.beyond:
                        self.assertEqual(sizes, [])
                    if exists:
                        self.assertLessEqual(grower.world.size, limit)
        self.assertGreater(min(counts.values()), 100)

    def test_the_elder_closes_the_tree_at_some_limit(self):
        # P goes on from a for ever, and stops after three steps. The second clause tempts to make things without end.
        clauses = [clause(yes(("R", X, ("f", X)))), clause(no(("P", X)), yes(("P", ("f", X)))), clause(yes(("P", A))),
                   clause(no(("P", ("f", ("f", FA)))))]
        signature = Signature([("a", 0), ("f", 1)], [("P", 1), ("R", 2)])
        closes = []
        for limit in range(1, 7):
            grower = grow(signature, clauses, limit, elder_every=1)
            self.assertIsNone(grower.world)
            closes.append(not grower.beyond)
        self.assertEqual(closes, [False, False, False, False, True, True])
        # Otherwise it goes on making things for the first clause.
        self.assertTrue(all(grow(signature, clauses, limit).beyond for limit in range(1, 7)))

    def test_only_worlds_without_end(self):
        # Another thing each time: f has no value twice, and not the value a.
        clauses = [clause(no(FX, A)), clause(no(FX, ("f", Y)), yes(X, Y))]
        for limit in range(1, 6):
            for elder in (0, 1, 2):
                grower = grow(SMALL, clauses, limit, elder_every=elder)
                self.assertTrue(grower.beyond)
                self.assertIsNone(grower.world)
