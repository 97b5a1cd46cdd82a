import random

from tests.drawing import SIGNATURE, Case, clause, draw_clauses, no, yes
from worldorpaper.books import Signature
from worldorpaper.clauses import clause_unknowns
from worldorpaper.errors import BadWorld
from worldorpaper.growing import Grower
from worldorpaper.partial import Partial
from worldorpaper.terms import TOP
from worldorpaper.trees import clauses_used, cut_tree, first_fault, has_beyond, judge_tree, tree_nodes

A, B, X, Y = ("a",), ("b",), "x", "y"
BEYOND = ("beyond",)
TWO = Signature([("a", 0), ("b", 0)], [])
EXAMPLE = [clause(no(A, B)), clause(yes(X, Y))]
TREE = ("cell", "b", (), (("false", 0, ()), ("false", 1, (0, 1))))
SMALL = Signature([("a", 0), ("b", 0), ("f", 1)], [("P", 1)])
BARE = Signature([("f", 1)], [("P", 1), ("Q", 0)])
PAIR = Signature([("a", 0)], [("R", 2)])


def places(tree, place=()):
    """The places of all nodes in preorder."""
    found = [place]
    for index, child in enumerate(tree[3] if tree[0] == "cell" else ()):
        found += places(child, place + (index,))
    return found


def node_at(tree, place):
    for index in place:
        tree = tree[3][index]
    return tree


def put(tree, place, node):
    if not place:
        return node
    children = tree[3][:place[0]] + (put(tree[3][place[0]], place[1:], node),) + tree[3][place[0] + 1:]
    return tree[:3] + (children,)


def way(partial, cell, index):
    """The entry of the way with the index, and whether this is a new thing."""
    if partial.signature.has_relation(cell[0]):
        return index == 1, False
    return index, index == partial.size


def plain_fault(signature, clauses, limit, tree):
    """Points 99 and 100 as they stand: each place in preorder is reached from the root anew."""
    if limit < 1:
        return ()
    for place in places(tree):
        partial, must_be_beyond = Partial(signature, clauses), False
        for depth, index in enumerate(place):
            cell = node_at(tree, place[:depth])[1:3]
            entry, is_new = way(partial, cell, index)
            if is_new and partial.size == limit:
                must_be_beyond = True
            else:
                partial = partial.with_cell(cell, entry)
        if not plain_right(partial, clauses, node_at(tree, place), must_be_beyond):
            return place
    return None


def plain_right(partial, clauses, node, must_be_beyond):
    if node[0] == "beyond" or must_be_beyond:
        return node[0] == "beyond" and must_be_beyond
    if node[0] == "false":
        _, index, things = node
        if index not in range(len(clauses)) or any(thing not in range(partial.size) for thing in things):
            return False
        unknowns = clause_unknowns(clauses[index])
        if len(unknowns) != len(things):
            return False
        values = dict(zip(unknowns, things))
        return all(partial.read_literal(literal, values) == ("is", False) for literal in clauses[index])
    cell = node[1:3]
    return partial.is_free(cell) and len(partial.ways(cell)) == len(node[3])


def drawn_trees(seed, count, most=120):
    """Signatures, clauses, limits and closed trees of growers."""
    rng = random.Random(seed)
    found = 0
    while found < count:
        signature = rng.choice((SMALL, BARE, PAIR, SIGNATURE))
        clauses = draw_clauses(rng, 6, signature)
        grower = Grower(signature, clauses, rng.randint(1, 3), picks=[rng.randrange(4) for _ in range(rng.randint(0,
            3))],
                        elder_every=rng.randint(0, 2))
        while not grower.has_ended() and grower.opened < most:
            grower.step()
        if grower.tree is not None and (grower.tree[0] == "cell" or rng.random() < 0.1):
            found += 1
            yield rng, signature, clauses, grower


class Faults(Case):
    """Points 99 and 100."""

    def test_the_example(self):
        for limit in range(2, 6):
            self.gives(None, first_fault, TWO, EXAMPLE, limit, TREE)
            self.gives("closed", judge_tree, TWO, tuple(EXAMPLE), limit, TREE)
        self.gives((1,), first_fault, TWO, EXAMPLE, 1, TREE)
        beyond = ("cell", "b", (), (("false", 0, ()), BEYOND))
        self.gives(None, first_fault, TWO, EXAMPLE, 1, beyond)
        self.gives("beyond", judge_tree, TWO, EXAMPLE, 1, beyond)
        self.gives((1,), first_fault, TWO, EXAMPLE, 2, beyond)

    def test_a_limit_below_1(self):
        for limit in (0, -1, -10 ** 20):
            for tree in (TREE, BEYOND, ("false", 0, ())):
                self.gives((), first_fault, TWO, [()], limit, tree)
                self.gives("wrong", judge_tree, TWO, [()], limit, tree)
        self.gives(None, first_fault, TWO, [()], 10 ** 20, ("false", 0, ()))

    def test_wrong_leaves(self):
        clauses = [clause(no(A, A)), clause(no(X, X)), clause(yes(("P", A))), clause(yes(X, X)), ()]
        for leaf in (("false", 0, ()), ("false", 1, (0,)), ("false", 4, ())):
            self.gives(None, first_fault, SIGNATURE, clauses, 1, leaf)
        wrong = [("false", 0, (0,)), ("false", 1, ()), ("false", 1, (0, 0)), ("false", 1, (1,)), ("false", 1, (-1,)),
                 ("false", 2, ()), ("false", 3, (0,)), ("false", 5, ()), ("false", -1, ()), ("false", -5, ()),
                 ("false", 10 ** 30, ()), ("false", 1, (10 ** 30,)), ("false", -10 ** 30, (-10 ** 30,)), BEYOND,
                 ("false", 4, (0,))]
        for leaf in wrong:
            self.gives((), first_fault, SIGNATURE, clauses, 1, leaf)
            self.gives("wrong", judge_tree, SIGNATURE, clauses, 2, leaf)
            # The same below a node.
            tree = ("cell", "Q", (), (("false", 4, ()), leaf))
            self.gives((1,), first_fault, SIGNATURE, clauses, 1, tree)
            self.gives((0,), first_fault, SIGNATURE, clauses, 1, ("cell", "Q", (), (leaf, ("false", 4, ()))))

    def test_wrong_cells(self):
        leaf = ("false", 0, ())
        clauses = [clause(no(A, A))]
        right = [("cell", "Q", (), (leaf, leaf)), ("cell", "P", (0,), (leaf, leaf)), ("cell", "f", (0,), (leaf, leaf)),
                 ("cell", "S", (0, 0, 0), (leaf, leaf)), ("cell", "b", (), (leaf, leaf))]
        for tree in right:
            self.gives(None, first_fault, SIGNATURE, clauses, 2, tree)
        wrong = [("cell", "a", (), (leaf, leaf)), ("cell", "c", (), (leaf, leaf)), ("cell", "", (), (leaf, leaf)),
                 ("cell", "not", (), (leaf, leaf)), ("cell", "Q", (0,), (leaf, leaf)), ("cell", "P", (), (leaf, leaf)),
                 ("cell", "P", (0, 0), (leaf, leaf)), ("cell", "P", (1,), (leaf, leaf)),
                 ("cell", "P", (-1,), (leaf, leaf)),
                 ("cell", "P", (10 ** 30,), (leaf, leaf)), ("cell", "Q", (), ()), ("cell", "Q", (), (leaf,)),
                 ("cell", "Q", (), (leaf, leaf, leaf)), ("cell", "f", (0,), (leaf,)), ("cell", "f", (0,), (leaf,) * 3),
                 ("cell", "f", (0,), ())]
        for tree in wrong:
            self.gives((), first_fault, SIGNATURE, clauses, 2, tree)
            self.gives("wrong", judge_tree, SIGNATURE, clauses, 2, tree)
            self.gives((1,), first_fault, SIGNATURE, clauses, 2, ("cell", "R", (0, 0), (leaf, tree)))
        # A cell that is decided above.
        for word in ("Q", "b"):
            twice = ("cell", word, (), (leaf, ("cell", word, (), (leaf, leaf))))
            self.gives((1,), first_fault, SIGNATURE, clauses, 2, twice)
        # Below the new thing there is one more way.
        self.gives((1,), first_fault, SIGNATURE, clauses, 3, ("cell", "b", (),
            (leaf, ("cell", "f", (1,), (leaf,) * 2))))
        self.gives(None, first_fault, SIGNATURE, clauses, 3, ("cell", "b", (),
            (leaf, ("cell", "f", (1,), (leaf,) * 3))))

    def test_wrong_places_of_a_leaf_beyond(self):
        leaf = ("false", 0, ())
        for tree, limit, fault in [
                (BEYOND, 1, ()), (("cell", "Q", (), (leaf, BEYOND)), 1, (1,)),
                (("cell", "Q", (), (BEYOND, leaf)), 1, (0,)),
                (("cell", "b", (), (BEYOND, BEYOND)), 1, (0,)), (("cell", "b", (), (leaf, BEYOND)), 2, (1,)),
                (("cell", "b", (), (leaf, leaf)), 1, (1,)), (("cell", "b", (),
                    (leaf, ("cell", "Q", (), (leaf, leaf)))), 1, (1,)),
                (("cell", "b", (), (leaf, ("cell", "f", (0,), (leaf, BEYOND, leaf)))), 2, (1, 1)),
                (("cell", "b", (), (leaf, ("cell", "f", (0,), (leaf, leaf, leaf)))), 2, (1, 2)),
                (("cell", "b", (), (leaf, ("cell", "f", (0,), (leaf, leaf, BEYOND)))), 2, None),
                (("cell", "b", (), (leaf, BEYOND)), 1, None)]:
            self.gives(fault, first_fault, SIGNATURE, [clause(no(A, A))], limit, tree)

    def test_the_first_fault_in_preorder(self):
        leaf, wrong = ("false", 0, ()), ("false", 9, ())
        inner = ("cell", "P", (0,), (leaf, wrong))
        self.gives((0, 1), first_fault, SIGNATURE, [clause(no(A, A))], 2, ("cell", "Q", (), (inner, wrong)))
        self.gives((1,), first_fault, SIGNATURE, [clause(no(A, A))], 2, ("cell", "Q", (), (leaf, wrong)))
        # What is below a wrong node is not looked at.
        self.gives((), first_fault, SIGNATURE, [clause(no(A, A))], 2, ("cell", "Q", (), (wrong, wrong, wrong)))

    def test_as_the_points_stand(self):
        words = {"wrong": 0, "beyond": 0, "closed": 0}
        for rng, signature, clauses, grower in drawn_trees(9901, 160):
            tree = grower.tree
            for _ in range(8):
                limit = grower.limit + rng.choice((0, 0, 0, 0, 1, -1))
                expected = plain_fault(signature, clauses, limit, tree)
                self.gives(expected, first_fault, signature, clauses, limit, tree)
                word = judge_tree(signature, clauses, limit, tree)
                self.assertEqual(word == "wrong", expected is not None)
                self.assertEqual(word == "beyond", expected is None and has_beyond(tree))
                words[word] += 1
                place = rng.choice(places(tree))
                tree = put(tree, place, self.changed(rng, node_at(tree, place), signature, clauses))
        self.assertGreater(min(words.values()), 60)

    def changed(self, rng, node, signature, clauses):
        kind = rng.randrange(5)
        if kind == 0:
            return rng.choice((node, BEYOND, ("false", rng.randint(-1, len(clauses)), (0,) * rng.randrange(3))))
        if node[0] == "beyond":
            return ("false", 0, ())
        if node[0] == "false":
            return ("false", node[1], tuple(rng.choice((0, 1, thing)) for thing in node[2]))
        if kind == 1:
            return node[:3] + (node[3][:-1],)
        if kind == 2:
            return node[:3] + (node[3][::-1],)
        if kind == 3:
            name, arity = rng.choice(signature.functions + signature.relations)
            return ("cell", name, tuple(rng.randint(-1, 2) for _ in range(arity)), node[3])
        return rng.choice(node[3]) if node[3] else node


class Meaning(Case):
    """Point 101."""

    def test_growers(self):
        kinds = {"closed": 0, "beyond": 0}
        for rng, signature, clauses, grower in drawn_trees(10101, 150):
            word = "beyond" if grower.beyond else "closed"
            self.gives(word, judge_tree, signature, clauses, grower.limit, grower.tree)
            kinds[word] += 1
            for limit in range(1, 7):
                if word == "beyond" and limit != grower.limit:
                    self.assertEqual(judge_tree(signature, clauses, limit, grower.tree), "wrong")
                if word == "closed" and limit > grower.limit:
                    self.assertEqual(judge_tree(signature, clauses, limit, grower.tree), "closed")
        self.assertGreater(min(kinds.values()), 20)


class Contents(Case):
    """Point 102."""

    def test_written_out(self):
        self.gives(3, tree_nodes, TREE)
        self.gives(1, tree_nodes, BEYOND)
        self.gives(1, tree_nodes, ("false", 7, (1, 2)))
        self.gives(1, tree_nodes, ("cell", "f", (), ()))
        self.gives(5, tree_nodes, ("cell", "f", (), (BEYOND, TREE)))
        self.gives(False, has_beyond, TREE)
        self.gives(True, has_beyond, BEYOND)
        self.gives(False, has_beyond, ("cell", "beyond", (), ()))
        self.gives(True, has_beyond, ("cell", "f", (), (TREE, ("cell", "P", (0,), (TREE, BEYOND)))))
        self.gives([0, 1], clauses_used, TREE)
        self.gives([], clauses_used, BEYOND)
        self.gives([], clauses_used, ("cell", "f", (7,), ()))
        tree = ("cell", "f", (7,), (("false", 5, ()), ("false", -2, (1,)), ("cell", "g", (),
            (("false", 5, (3,)), BEYOND)),
                                    ("false", 10 ** 20, ())))
        self.gives([-2, 5, 10 ** 20], clauses_used, tree)

    def test_the_used_clauses_are_enough(self):
        for rng, signature, clauses, grower in drawn_trees(10201, 60):
            used = clauses_used(grower.tree)
            # A clause that is always true says nothing. It keeps the first constant of the start, if it has one.
            rest = []
            for index, one in enumerate(clauses):
                spare = tuple((True, side, side) for literal in one for side in literal[1:])
                rest.append(one if index in used else spare)
            self.assertEqual(judge_tree(signature, rest, grower.limit, grower.tree),
                             "beyond" if grower.beyond else "closed")


def plain_asks(signature, clauses, tree, place):
    """The cells that the leaf `false` at a place asks."""
    partial = Partial(signature, clauses)
    for depth, index in enumerate(place):
        cell = node_at(tree, place[:depth])[1:3]
        partial = partial.with_cell(cell, way(partial, cell, index)[0])
    _, index, things = node_at(tree, place)
    values = dict(zip(clause_unknowns(clauses[index]), things))
    cells = []

    def value(term):
        if isinstance(term, str):
            return values[term]
        cell = (term[0], tuple(value(argument) for argument in term[1:]))
        cells.append(cell)
        return dict(partial)[cell]

    for _, left, right in clauses[index]:
        for side in (left, right):
            if side != TOP:
                value(side)
    return cells


def plain_cut(signature, clauses, tree):
    """Point 103 as it stands; a leaf is told by its place in the whole tree, as nothing else changes for it."""
    def cut(place):
        node = node_at(tree, place)
        if node[0] != "cell":
            return node, [place]
        cell = node[1:3]
        rows = [cut(place + (index,)) for index in range(len(node[3]))]
        older = rows if signature.has_relation(cell[0]) else rows[:-1]
        for child, leaves in older:
            false = [leaf for leaf in leaves if node_at(tree, leaf)[0] == "false"]
            if child != BEYOND and not any(cell in plain_asks(signature, clauses, tree, leaf) for leaf in false):
                return child, leaves
        return node[:3] + (tuple(child for child, _ in rows),), [leaf for _, leaves in rows for leaf in leaves]
    return cut(())[0]


class Cutting(Case):
    """Points 103 and 104."""

    CLAUSES = [clause(no(A, A)), clause(no(("P", A))), clause(yes(("P", A))), clause(no(A, B))]

    def test_leaves_stay(self):
        for leaf in (("false", 0, ()), BEYOND):
            self.gives(leaf, cut_tree, SIGNATURE, self.CLAUSES, leaf)

    def test_what_no_leaf_asks(self):
        split = ("cell", "P", (0,), (("false", 2, ()), ("false", 1, ())))
        self.gives(split, cut_tree, SIGNATURE, self.CLAUSES, split)
        self.gives(split, cut_tree, SIGNATURE, self.CLAUSES, ("cell", "Q", (), (split, split)))
        self.gives(split, cut_tree, SIGNATURE, self.CLAUSES, ("cell", "b", (), (split, split)))
        # The first such child.
        self.gives(("false", 0, ()), cut_tree, SIGNATURE, self.CLAUSES, split[:3] + ((("false", 2, ()),
            ("false", 0, ())),))
        first, second = ("cell", "R", (0, 0), (split, split)), ("false", 0, ())
        self.gives(split, cut_tree, SIGNATURE, self.CLAUSES, ("cell", "Q", (), (first, second)))
        self.gives(second, cut_tree, SIGNATURE, self.CLAUSES, ("cell", "Q", (), (second, first)))

    def test_the_child_of_a_new_thing_does_not_take_the_place(self):
        asks = ("false", 3, ())
        new = ("cell", "P", (0,), (("false", 2, ()), ("false", 1, ())))
        tree = ("cell", "b", (), (asks, new))
        self.gives(tree, cut_tree, SIGNATURE, self.CLAUSES, tree)
        tree = ("cell", "b", (), (asks, BEYOND))
        self.gives(tree, cut_tree, SIGNATURE, self.CLAUSES, tree)
        tree = ("cell", "b", (), (("false", 0, ()), BEYOND))
        self.gives(("false", 0, ()), cut_tree, SIGNATURE, self.CLAUSES, tree)
        self.assertEqual(judge_tree(SIGNATURE, self.CLAUSES, 1, tree), "beyond")

    def test_a_cell_that_is_read_on_the_way(self):
        # The leaf reads b for P(b), although a is the same thing.
        clauses = [clause(no(("P", B))), clause(yes(("P", X))), clause(no(("P", A)))]

        def split(thing, index):
            return ("cell", "P", (thing,), (("false", 1, (thing,)), ("false", index, ())))

        tree = ("cell", "b", (), (split(0, 0), split(1, 0)))
        self.assertEqual(judge_tree(SIGNATURE, clauses, 2, tree), "closed")
        self.gives(tree, cut_tree, SIGNATURE, clauses, tree)
        tree = ("cell", "b", (), (split(0, 2), split(1, 0)))
        self.gives(split(0, 2), cut_tree, SIGNATURE, clauses, tree)

    def test_unknowns_with_longer_names(self):
        clauses = [clause(no(("P", "unknown1"))), clause(yes(("P", "x12")), no("y3", "y3"))]
        split = ("cell", "P", (0,), (("false", 1, (0, 0)), ("false", 0, (0,))))
        self.assertEqual(judge_tree(SIGNATURE, clauses, 1, split), "closed")
        self.gives(split, cut_tree, SIGNATURE, clauses, ("cell", "Q", (), (split, split)))

    def test_as_the_points_stand(self):
        shorter = better = 0
        for rng, signature, clauses, grower in drawn_trees(10301, 200):
            tree = grower.tree
            cut = self.call(cut_tree, signature, clauses, tree)
            self.assertEqual(cut, plain_cut(signature, clauses, tree))
            word, before = [judge_tree(signature, clauses, grower.limit, one) for one in (cut, tree)]
            self.assertNotEqual(word, "wrong")
            self.assertTrue(word == "closed" or before == "beyond")
            self.assertLessEqual(tree_nodes(cut), tree_nodes(tree))
            self.assertLessEqual(set(clauses_used(cut)), set(clauses_used(tree)))
            self.gives(cut, cut_tree, signature, clauses, cut)
            shorter += tree_nodes(cut) < tree_nodes(tree)
            better += word != before
        self.assertGreater(shorter, 40)
        self.assertGreater(better, 3)

    def test_partial_worlds_take_no_other_entries(self):
        # What the judge relies on for each child.
        self.fails(BadWorld, Partial(SIGNATURE, []).with_cell, ("Q", ()), 1)
