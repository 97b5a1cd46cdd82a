import itertools
import random

from tests.drawing import Case, draw_sentence, draw_world, state
from worldorpaper.books import Book, Signature
from worldorpaper.errors import BadWorld, NotOfKind
from worldorpaper.going import worlds_of_size
from worldorpaper.kinds import enough, names_in
from worldorpaper.reading import read_book
from worldorpaper.sentences import quantifier_depth
from worldorpaper.sorts import case_of, case_size, cases_of, least_case, partner, small_world, small_worlds
from worldorpaper.truth import book_true, sentence_true
from worldorpaper.worlds import World

# The names with an e do not stand in the books.
SIGNATURE = Signature([("a", 0), ("e1", 0), ("b", 0), ("e2", 1)],
                      [("E1", 1), ("P", 1), ("Q", 0), ("E2", 2), ("M", 1), ("O", 0), ("E3", 0)])
OTHER = "function f 1\nrelation R 2\nsentence all x. R(x, f(x))"


def book(*texts,
         head="function a 0\nfunction e1 0\nfunction b 0\nfunction e2 1\nrelation E1 1\nrelation P 1\nrelation Q 0\n"
         "relation E2 2\nrelation M 1\nrelation O 0\nrelation E3 0\n"):
    return read_book(head + "\n".join("sentence " + text for text in texts))


BOOKS = [book(), book("Q"), book("P(a)"), book("a = b", "Q or O"), book("all x. P(x)"), book("some x. some y. x != y"),
         book("some x. P(x) and M(x)", "Q"), book("all x. x = a or P(x)"), book("all x. P(x) iff x = b", "O iff Q"),
         book("P(a)", "M(b)", "a != b"), book("some x. some y. P(x) and not P(y)", "P(a)"), book("b = b", "a = a")]


def parts(one):
    """The facts, marks, standing constants and depth of a book, as point 123 says."""
    names = names_in(one)
    rows = [[name for name in names if name[0].isupper() == upper and one.signature.arity(name) == arity]
            for upper, arity in ((True, 0), (True, 1), (False, 0))]
    depth = max([quantifier_depth(sentence) for sentence in one.sentences] + [0])
    return rows + [depth if rows[2] else max(1, depth)]


def plain_case(one, world):
    """Points 123 and 124 as they stand."""
    facts, marks, constants, depth = parts(one)
    sorts = [int("0" + "".join("1" if world.holds(mark, (thing,)) else "0" for mark in marks),
                 2) for thing in world.things]
    values = [world.value(name, ()) for name in constants]
    named = [value for place, value in enumerate(values) if value not in values[:place]]
    counts = [sum(1 for thing in world.things if thing not in named and sorts[thing] == sort)
              for sort in range(2 ** len(marks))]
    return (tuple(world.holds(fact, ()) for fact in facts), tuple(named.index(value) for value in values),
            tuple(sorts[thing] for thing in named), tuple(min(count, depth) for count in counts))


def plain_cases(one):
    """All cases: every tuple of the right shape that some world can lie in, in the order of point 124."""
    facts, marks, constants, depth = parts(one)
    found = []
    for answers in itertools.product((False, True), repeat=len(facts)):
        for places in itertools.product(range(len(constants) or 1), repeat=len(constants)):
            many = max(places, default=-1) + 1
            if list(dict.fromkeys(places)) != list(range(many)):
                continue
            for sorts in itertools.product(range(2 ** len(marks)), repeat=many):
                for counts in itertools.product(range(depth + 1), repeat=2 ** len(marks)):
                    if many or any(counts):
                        found.append((answers, places, sorts, counts))
    return sorted(found, key=lambda case: (len(case[2]) + sum(case[3]),) + case)


def draw_single(rng, most=2):
    """A book of facts, marks and constants with few cases."""
    small = Signature([("a", 0), ("b", 0)][:rng.randint(0, 2)], [("P", 1), ("Q", 0),
        ("M", 1)][:rng.choice((1, 2, 2, 3))])
    sentences = []
    count = rng.randint(1, most)
    while len(sentences) < count:
        sentence = draw_sentence(rng, 3, (), ("x", "y"))
        try:
            small.check_sentence(sentence)
        except ValueError:
            continue
        if quantifier_depth(sentence) < 3:
            sentences.append(sentence)
    return Book(small, sentences)


class Kind(Case):
    """Point 123: every function refuses a book of another kind before anything else."""

    def test_other_books(self):
        other = read_book(OTHER)
        world = World.blank(other.signature, 2)
        self.fails(NotOfKind, cases_of, other)
        self.fails(NotOfKind, case_of, other, world)
        self.fails(NotOfKind, small_world, other, ((), (), (), (1,)))
        self.fails(NotOfKind, small_worlds, other)
        self.fails(NotOfKind, least_case, other)
        self.fails(NotOfKind, partner, other, world, World.blank(other.signature, 1), 0)
        self.fails(NotOfKind, partner, other, world, World.blank(other.signature, 1), 0, picked=[(0, 1)])

    def test_small_worlds_refuses_when_it_is_iterated(self):
        pairs = small_worlds(read_book(OTHER))
        with self.assertRaises(NotOfKind):
            next(pairs)


class Cases(Case):
    """Point 124."""

    def test_written_out(self):
        # No marks, no facts, no standing constants: the depth counts as 1.
        self.gives([((), (), (), (1,))], cases_of, book())
        self.gives([((), (), (), (1,)), ((), (), (), (2,))], cases_of, book("some x. some y. x != y"))
        self.gives([((False,), (), (), (1,)), ((True,), (), (), (1,))], cases_of, book("Q"))
        # With a constant the depth can be 0.
        self.gives([((), (0,), (0,), (0, 0)), ((), (0,), (1,), (0, 0))], cases_of, book("P(a)"))
        self.gives([((), (0, 0), (0,), (0,)), ((), (0, 1), (0, 0), (0,))], cases_of, book("a = b"))
        self.gives([((), (), (), (0, 1)), ((), (), (), (1, 0)), ((), (), (), (1, 1))], cases_of, book("all x. P(x)"))
        self.gives([((), (0,), (0,), (0,)), ((), (0,), (0,), (1,))], cases_of, book("all x. x = a"))

    def test_as_the_point_stands(self):
        rng = random.Random(12401)
        for one in BOOKS + [draw_single(rng) for _ in range(60)]:
            expected = plain_cases(one)
            self.gives(expected, cases_of, one)
            self.assertEqual(len({repr(case) for case in expected}), len(expected))
            for case in expected[:20]:
                self.gives(len(case[2]) + sum(case[3]), case_size, case)
            # Point 126.
            self.assertEqual(max(case_size(case) for case in cases_of(one)), enough(one, "single"))

    def test_several_standing_constants(self):
        for count, rows in ((2, 2), (3, 5), (4, 15), (5, 52)):
            names = "abcde"[:count]
            head = "".join(f"function {name} 0\n" for name in names)
            one = book(*[f"{name} = {name}" for name in names], head=head)
            self.gives(plain_cases(one), cases_of, one)
            self.assertEqual(len(cases_of(one)), rows)

    def test_every_world_lies_in_one(self):
        rng = random.Random(12402)
        for one in BOOKS:
            cases = cases_of(one)
            for _ in range(30):
                world = draw_world(rng, rng.randint(1, 6), SIGNATURE)
                self.gives(plain_case(one, world), case_of, one, world)
                self.assertEqual(cases.count(case_of(one, world)), 1)

    def test_every_case_has_a_world(self):
        one = read_book("function a 0\nrelation P 1\nrelation Q 0\nsentence some x. P(x) and Q and x = a")
        found = {case_of(one, world) for size in (1, 2, 3) for world in worlds_of_size(one.signature, size)}
        self.assertEqual(found, set(cases_of(one)))

    def test_the_first_mark_counts_most(self):
        one = book("P(a) and M(a)", "some x. x = a")
        world = World.blank(SIGNATURE, 2).with_table("P", [True, False]).with_table("M", [False, True])
        self.gives(((), (0,), (2,), (0, 1, 0, 0)), case_of, one, world)
        self.gives(((), (0,), (1,), (0, 0, 1, 0)), case_of, one, world.with_table("a", [1]))

    def test_counts_end_at_the_depth(self):
        for depth in (1, 2, 3):
            text = "".join(f"some {name}. " for name in "xyz"[:depth]) + "P(x)"
            for size in range(1, 6):
                world = World.blank(SIGNATURE, size)
                self.gives(((), (), (), (min(size, depth), 0)), case_of, book(text), world)
                self.gives(((), (0,), (0,), (min(size - 1, depth), 0)), case_of, book(text, "a = a"), world)

    def test_places_number_the_named_things_by_first_names(self):
        one = book("a = b", "e1 = e1")
        world = World.blank(SIGNATURE, 4)
        for values, places in [((2, 2, 2), (0, 0, 0)), ((3, 0, 3), (0, 1, 0)), ((1, 3, 0), (0, 1, 2)),
                               ((2, 0, 0), (0, 1, 1))]:
            for name, value in zip(("a", "e1", "b"), values):
                world = world.with_table(name, [value])
            self.gives(((), places, (0,) * (max(places) + 1), (0,)), case_of, one, world)


class SmallWorlds(Case):
    """Point 125."""

    def test_written_out(self):
        one = book("some x. P(x) and M(x) and x = a", "Q or O", "b = b")
        case = ((True, False), (0, 1), (2, 1), (0, 1, 1, 0))
        world = self.call(small_world, one, case)
        self.assertEqual((world.size, world.signature.functions, world.signature.relations),
                         (4, SIGNATURE.functions, SIGNATURE.relations))
        tables = {name: world.table(name) for name in ("a", "b", "e1", "e2", "P", "M", "Q", "O", "E1", "E3")}
        self.assertEqual(state(tables), state({
            "a": (0,), "b": (1,), "e1": (0,), "e2": (0, 0, 0, 0), "P": (True, False, False, True),
            "M": (False, True, True, False), "Q": (True,), "O": (False,), "E1": (False,) * 4, "E3": (False,)}))
        self.assertEqual(set(world.table("E2")), {False})

    def test_all_small_worlds(self):
        rng = random.Random(12501)
        for one in BOOKS + [draw_single(rng) for _ in range(30)]:
            pairs = self.call(small_worlds, one)
            self.assertEqual([case for case, _ in pairs], cases_of(one))
            for case, world in pairs[:40]:
                self.assertEqual(case_of(one, world), case)
                self.assertEqual(world.size, case_size(case))
                self.assertEqual(state(world), state(small_world(one, case)))


class Least(Case):
    """Point 126."""

    def test_written_out(self):
        case, world = self.call(least_case, book("P(a)", "some x. not P(x)"))
        self.assertEqual((case, world.size, world.table("P")), (((), (0,), (1,), (1, 0)), 2, (True, False)))
        self.gives(None, least_case, book("P(a)", "all x. not P(x)"))
        self.gives(None, least_case, book("Q", "not Q"))
        case, world = self.call(least_case, book())
        self.assertEqual((case, world.size), (((), (), (), (1,)), 1))
        case, world = self.call(least_case, book("some x. some y. some z. x != y and y != z and x != z"))
        self.assertEqual((case, world.size), (((), (), (), (3,)), 3))

    def test_no_smaller_world(self):
        rng = random.Random(12601)
        seen = {None: 0, 1: 0, 2: 0}
        for _ in range(300):
            one = draw_single(rng, 4)
            if rng.random() < 0.2:
                one = one.with_sentence(("some", "x", ("some", "y", ("not", ("same", "x", "y")))))
            found = least_case(one)
            true = [(case, world) for case, world in small_worlds(one) if book_true(world, one)]
            self.assertEqual(state(found), state(true[0] if true else None))
            least = next((size for size in (1, 2, 3)
                          if any(book_true(world, one) for world in worlds_of_size(one.signature, size))), None)
            size = None if found is None else found[1].size
            if least is not None or size is None or size < 4:
                self.assertEqual(size, least)
            seen[size] = seen.get(size, 0) + 1
        self.assertGreater(min(seen[None], seen[1], seen[2]), 5)

    def test_worlds_of_one_case_agree(self):
        rng = random.Random(12602)
        for _ in range(60):
            one = draw_single(rng)
            case = rng.choice(cases_of(one))
            small = small_world(one, case)
            for _ in range(40):
                world = draw_world(rng, rng.randint(1, 5), one.signature)
                if case_of(one, world) == case:
                    for sentence in one.sentences:
                        self.assertEqual(sentence_true(world, sentence), sentence_true(small, sentence))


def plain_partner(one, first, second, thing, picked):
    """Point 130 as it stands."""
    _, marks, constants, _ = parts(one)
    for name in constants:
        if first.value(name, ()) == thing:
            return second.value(name, ())
    for pair in picked:
        if pair[0] == thing:
            return pair[1]
    sort = [first.holds(mark, (thing,)) for mark in marks]
    fits = [other for other in second.things if [second.holds(mark, (other,)) for mark in marks] == sort
            and other not in [second.value(name,
                                           ()) for name in constants] and other not in [pair[1] for pair in picked]]
    return min(fits, default=None)


class Partners(Case):
    """Point 130."""

    ONE = book("some x. some y. P(x) and P(y) and x = a")

    def world(self, size, a, marked):
        return World.blank(SIGNATURE, size).with_table("a", [a]).with_table("P",
            [thing in marked for thing in range(size)])

    def test_written_out(self):
        first, second = self.world(6, 4, (0, 1, 2)), self.world(5, 1, (2, 3))
        self.fails(BadWorld, partner, self.ONE, first, self.world(4, 0, (2, 3)), 0)
        self.fails(BadWorld, partner, self.ONE, first, self.world(5, 2, (2, 3)), 0)
        self.gives(2, partner, self.ONE, first, self.world(9, 0, (2, 3, 4)), 0)
        self.gives(1, partner, self.ONE, first, second, 4)
        self.gives(2, partner, self.ONE, first, second, 0)
        self.gives(0, partner, self.ONE, first, second, 3)
        self.gives(3, partner, self.ONE, first, second, 0, picked=[(1, 2)])
        self.gives(2, partner, self.ONE, first, second, 1, picked=((1, 2), (1, 3)))
        self.gives(3, partner, self.ONE, first, second, 1, picked=((0, 2), (1, 3)))
        self.gives(None, partner, self.ONE, first, second, 2, picked=((0, 2), (1, 3)))
        # A named thing has its answer whatever the pairs say.
        self.gives(1, partner, self.ONE, first, second, 4, picked=[(4, 0)])

    def test_the_second_world_can_be_the_first(self):
        world = self.world(3, 0, (0, 1))
        for thing in (0, 1, 2):
            self.gives(thing, partner, self.ONE, world, world, thing)

    def test_different_cases(self):
        for one, tables in [(book("Q"), {"Q": [True]}), (book("P(a)"), {"P": [True, False]}),
                            (book("a = b"), {"a": [1]})]:
            world = World.blank(SIGNATURE, 2)
            other = world
            for name, entries in tables.items():
                other = other.with_table(name, entries)
            self.fails(BadWorld, partner, one, world, other, 0)
        # Names that do not stand in the book make no difference.
        other = World.blank(SIGNATURE, 2).with_table("E1", [True, False]).with_table("e1", [1])
        self.gives(0, partner, book("P(a)"), World.blank(SIGNATURE, 2), other, 0)

    def test_pairs_that_agree(self):
        rng = random.Random(13001)
        rounds = 0
        for _ in range(400):
            one = rng.choice(BOOKS)
            first, second = [draw_world(rng, rng.randint(1, 6), SIGNATURE) for _ in range(2)]
            if case_of(one, first) != case_of(one, second):
                continue
            rounds += 1
            _, marks, constants, depth = parts(one)
            pairs = []
            for _ in range(depth):
                if rng.random() < 0.5:
                    thing = rng.choice(first.things)
                    other = self.call(partner, one, first, second, thing, picked=pairs)
                    self.assertEqual(other, plain_partner(one, first, second, thing, pairs))
                else:
                    other = rng.choice(second.things)
                    turned = tuple(pair[::-1] for pair in pairs)
                    thing = self.call(partner, one, second, first, other, picked=turned)
                    self.assertEqual(thing, plain_partner(one, second, first, other, turned))
                self.assertIsNotNone(thing)
                self.assertIsNotNone(other)
                pairs.append((thing, other))
            for thing, other in pairs:
                self.assertEqual([first.holds(mark, (thing,)) for mark in marks],
                                 [second.holds(mark, (other,)) for mark in marks])
                self.assertEqual([first.value(name, ()) == thing for name in constants],
                                 [second.value(name, ()) == other for name in constants])
                for third, fourth in pairs:
                    self.assertEqual(thing == third, other == fourth)
        self.assertGreater(rounds, 60)
