import random

from tests.drawing import Case
from tests.test_kinds import book, draw_book
from worldorpaper.answers import Answer, decided_clauses, decided_origins, judge_answer
from worldorpaper.books import Book, Signature
from worldorpaper.deciders import decide
from worldorpaper.errors import BadArity
from worldorpaper.fillings import Fillings
from worldorpaper.forms import form_of
from worldorpaper.growing import grow
from worldorpaper.kinds import told_size
from worldorpaper.reading import read_book, read_sentence
from worldorpaper.reducing import needed_clauses
from worldorpaper.treelines import lines_of
from worldorpaper.trees import has_beyond
from worldorpaper.worlds import World

# Four unknowns stand before the last binder.
WIDE = read_book("relation R 2\nsentence all x. all y. all z. all u. some v. R(x, v) and R(y, v) and R(z, v) and R(u, v)")


def read(*texts, head="function a 0\nfunction b 0\nfunction f 1\nrelation P 1\nrelation R 2\nrelation Q 0\n"):
    return read_book(head + "\n".join("sentence " + text for text in texts))


def tree_paper(one, limit, elder_every=0):
    form = form_of(one)
    return ("tree", limit, grow(form.signature, decided_clauses(form), limit, elder_every=elder_every).tree)


def lines_paper(one):
    form = form_of(one)
    road = Fillings(form.signature, decided_clauses(form))
    while not road.has_ended():
        road.step()
    return ("lines", tuple(road.paper()))


class Decided(Case):
    """Point 140."""

    def test_written_out(self):
        one = read("P(a) or not P(a)", "P(a) and R(a, a)", "all x. P(x)", "Q")
        form = form_of(one)
        self.gives([form.clauses[index] for index in (2, 3, 4)], decided_clauses, form)
        self.gives([1, 2, 3], decided_origins, form)
        self.gives([], decided_clauses, form_of(read()))
        self.gives([], decided_origins, form_of(read("Q or not Q")))

    def test_drawn(self):
        rng = random.Random(14001)
        for _ in range(60):
            form = form_of(draw_book(rng))
            indexes = needed_clauses(form.clauses)
            self.gives([form.clauses[index] for index in indexes], decided_clauses, form)
            self.gives([form.origins[index] for index in indexes], decided_origins, form)


class Answers(Case):
    def test_what_it_keeps(self):
        answer = Answer("open")
        self.assertEqual((answer.verdict, answer.world, answer.paper, answer.rounds), ("open", None, None, 0))
        world = World.blank(Signature([], []), 1)
        answer = Answer("world", world=world, paper=("cases", ()), rounds=7)
        self.assertEqual((answer.verdict, answer.world, answer.paper, answer.rounds),
                         ("world", world, ("cases", ()), 7))


class Judging(Case):
    """Points 145 and 146."""

    def takes(self, one, verdict, **more):
        self.gives(True, judge_answer, one, Answer(verdict, **more))

    def refuses(self, one, verdict, **more):
        self.gives(False, judge_answer, one, Answer(verdict, **more))

    def test_open(self):
        one = read("P(a)")
        self.takes(one, "open")
        self.takes(one, "open", rounds=99)
        self.takes(WIDE, "open")
        self.refuses(one, "open", world=World.blank(one.signature, 1))
        self.refuses(one, "open", paper=("cases", (0,)))
        self.refuses(WIDE, "open", paper=("tree", 1, ("beyond",)))

    def test_other_verdicts(self):
        one = read("P(a)", "not P(a)")
        for word in ("", "yes", "Refuted", "worlds", "no"):
            self.refuses(one, word, paper=("cases", (0, 1)))
            self.refuses(one, word)
            self.refuses(read(), word, world=World.blank(one.signature, 1))

    def test_refuted_by_cases(self):
        one = read("P(a)", "not P(a)")
        self.takes(one, "refuted", paper=("cases", (0, 1)))
        self.takes(one, "refuted", paper=("cases", (0, 1)), rounds=4)
        for paper in (None, ("cases", ()), ("cases", (1, 0)), ("cases", (0, 1, 0)), ("cases", (0, -1))):
            self.refuses(one, "refuted", paper=paper)
        self.refuses(one, "refuted", paper=("cases", (0, 1)), world=World.blank(one.signature, 1))
        # The paper is right, but the book is of another kind.
        self.refuses(read("P(a)", "not P(a)", "R(a, a)"), "refuted", paper=("cases", (0, 1)))
        self.refuses(read("P(a)", "not P(a)", "f(a) = a"), "refuted", paper=("cases", (0, 1)))
        self.refuses(WIDE, "refuted", paper=("cases", (0, 1)))
        self.refuses(read(), "refuted", paper=("cases", ()))

    def test_refuted_by_a_closed_tree(self):
        one = read("P(a)", "all x. P(x) implies P(f(x))", "not P(f(f(a)))")
        self.assertIsNone(told_size(one))
        paper = tree_paper(one, 3, elder_every=1)
        self.takes(one, "refuted", paper=paper)
        self.takes(one, "refuted", paper=("tree", 4, paper[2]))
        self.refuses(one, "refuted", paper=("tree", 1, paper[2]))
        self.refuses(one, "refuted", paper=("tree", 0, paper[2]))
        self.refuses(one, "refuted", paper=paper, world=World.blank(one.signature, 1))
        # A leaf beyond shows nothing without a told size.
        beyond = tree_paper(one, 1)
        self.assertTrue(has_beyond(beyond[2]))
        self.refuses(one, "refuted", paper=beyond)
        # The sentences are others.
        self.refuses(read("P(a)", "all x. P(x) implies P(f(x))", "P(f(f(a)))"), "refuted", paper=paper)

    def test_refuted_by_a_leaf_beyond_at_the_told_size(self):
        one = read("all x. some y. R(x, y)", "all x. all y. not R(x, y)")
        self.assertEqual(told_size(one), 1)
        paper = tree_paper(one, 1)
        self.takes(one, "refuted", paper=paper)
        self.refuses(one, "refuted", paper=("tree", 2, paper[2]))
        two = read("all x. some y. R(x, y) and P(y)", "all x. all y. R(x, y) implies not P(y)")
        self.assertEqual(told_size(two), 2)
        self.takes(two, "refuted", paper=tree_paper(two, 2))
        self.takes(two, "refuted", paper=tree_paper(two, 3))
        one_thing = tree_paper(two, 1)
        self.refuses(two, "refuted", paper=one_thing)

    def test_refuted_by_lines(self):
        one = read("P(a)", "all x. P(x) implies P(f(x))", "not P(f(f(a)))")
        paper = lines_paper(one)
        self.takes(one, "refuted", paper=paper)
        self.refuses(one, "refuted", paper=("lines", ()))
        self.refuses(one, "refuted", paper=("lines", paper[1][:-1]))
        self.refuses(one, "refuted", paper=("lines", paper[1][1:]))
        self.refuses(one, "refuted", paper=paper, world=World.blank(one.signature, 1))
        self.refuses(one.without(2), "refuted", paper=paper)
        form = form_of(one)
        tree = tree_paper(one, 3, elder_every=1)[2]
        self.takes(one, "refuted", paper=("lines", tuple(lines_of(form.signature, decided_clauses(form), tree))))

    def test_lines_over_the_named_signature(self):
        one = read_book("relation P 1\nsentence all x. P(x)\nsentence all x. not P(x)")
        paper = lines_paper(one)
        self.assertIn((("x1", ("c1",)),), [reason[2] for _, reason in paper[1] if reason[0] == "fill"])
        self.takes(one, "refuted", paper=paper)

    def test_a_world_of_one_thing(self):
        one = read("P(a)", "Q")
        world = World.blank(one.signature, 1).with_table("P", [True]).with_table("Q", [True])
        self.takes(one, "world", world=world)
        self.takes(one, "world", world=World(read().signature, 1, {name: world.table(name) for name in "abfPRQ"}))
        self.refuses(one, "world", world=world.with_table("Q", [False]))
        for paper in (("cases", ()), ("tree", 0, ("false", 0, ())), ("tree", 1, ("beyond",)), ("lines", ())):
            self.refuses(one, "world", world=world, paper=paper)
        self.refuses(one, "world")
        self.refuses(one, "world", paper=("cases", ()))
        # The names must be those of the book, in their order.
        other = Signature(one.signature.functions[::-1], one.signature.relations)
        self.refuses(one, "world", world=World(other, 1, {name: world.table(name) for name in "abfPRQ"}))
        wider = one.signature.extended([("c", 0)])
        self.refuses(one, "world",
                     world=World(wider, 1, {name: [0] if name == "c" else world.table(name) for name in "abfPRQc"}))
        # No form is needed.
        self.takes(WIDE, "world", world=World(WIDE.signature, 1, {"R": [True]}))

    def test_a_greater_world(self):
        one = read("P(a)", "some x. not P(x)")
        world = World.blank(one.signature, 2).with_table("P", [True, False])
        self.takes(one, "world", world=world, paper=("cases", (0, 1)))
        self.takes(one, "world", world=world, paper=tree_paper(one, 1))
        self.refuses(one, "world", world=world)
        for indexes in ((), (0,), (0, 0), (0, 1, 0)):
            self.refuses(one, "world", world=world, paper=("cases", indexes))
        self.refuses(one, "world", world=world, paper=("tree", 2, tree_paper(one, 1)[2]))
        self.refuses(one, "world", world=world, paper=("tree", 0, tree_paper(one, 1)[2]))
        self.refuses(one, "world", world=world, paper=("tree", 1, ("beyond",)))
        self.refuses(one, "world", world=world, paper=("lines", ()))
        self.refuses(one, "world", world=world.with_table("P", [True, True]), paper=("cases", (0, 1)))
        # A greater world than needed.
        three = World.blank(one.signature, 3).with_table("P", [True, False, False])
        self.refuses(one, "world", world=three, paper=("cases", (0, 1)))
        self.refuses(one, "world", world=three, paper=tree_paper(one, 1))

    def test_a_world_with_a_closed_tree(self):
        # The tree closes without a leaf beyond, and so it is right at every limit from there on.
        one = read("a != b")
        world = World.blank(one.signature, 2).with_table("b", [1])
        self.takes(one, "world", world=world, paper=tree_paper(one, 1))
        other = read("R(a, a)", "a != b")
        world = World.blank(one.signature, 2).with_table("b", [1]).with_table("R", [True, False, False, False])
        self.refuses(other, "world", world=world, paper=("cases", (0,)))
        self.takes(other, "world", world=world, paper=tree_paper(other, 1))

    def test_cases_before_for_other_books(self):
        one = read("P(a)", "some x. not P(x)", "R(a, a)")
        world = World.blank(one.signature, 2).with_table("P", [True, False]).with_table("R",
            [True, False, False, False])
        self.refuses(one, "world", world=world, paper=("cases", (0, 1)))
        self.takes(one, "world", world=world, paper=tree_paper(one, 1))

    def test_a_book_without_a_form(self):
        world = World(WIDE.signature, 2, {"R": [True] * 4})
        self.fails(BadArity, judge_answer, WIDE, Answer("refuted", paper=("tree", 1, ("beyond",))))
        self.fails(BadArity, judge_answer, WIDE, Answer("refuted", paper=("lines", ())))
        self.fails(BadArity, judge_answer, WIDE, Answer("world", world=world, paper=("tree", 1, ("beyond",))))
        self.refuses(WIDE, "refuted")
        self.refuses(WIDE, "world", world=world)
        self.refuses(WIDE, "world", world=world, paper=("cases", ()))

    def test_answers_of_deciders(self):
        rng = random.Random(14601)
        seen = {}
        for _ in range(150):
            one = draw_book(rng)
            cases = rng.random() < 0.5
            answer = decide(one, 60, deal=rng.choice(((1, 0), (1, 1), (1, 3))), cases=cases,
                            elder_every=rng.randint(0, 2))
            self.gives(True, judge_answer, one, answer)
            word = answer.paper[0] if answer.paper else ""
            seen[(answer.verdict, word)] = seen.get((answer.verdict, word), 0) + 1
            # Another verdict with the same parts is not accepted.
            for verdict in {"refuted", "world", "open"} - {answer.verdict}:
                self.assertFalse(judge_answer(one, Answer(verdict, world=answer.world, paper=answer.paper)))
            if answer.verdict == "refuted" and one.sentences:
                opposite = Book(one.signature, [read_sentence("Q or not Q", one.signature)])
                self.assertFalse(judge_answer(opposite, answer))
        for row in (("refuted", "cases"), ("refuted", "tree"), ("refuted", "lines"), ("world", ""), ("world", "tree")):
            self.assertGreater(seen.get(row, 0), 0, seen)

    def test_a_world_with_a_paper_of_cases(self):
        one = book("some x. some y. P(x) and not P(y)")
        answer = decide(one)
        self.assertEqual((answer.verdict, answer.world.size, answer.paper[0]), ("world", 2, "cases"))
        self.gives(True, judge_answer, one, answer)
