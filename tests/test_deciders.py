import random

from tests.drawing import Case, state
from tests.test_answers import WIDE, read
from tests.test_fillings import FOUR
from tests.test_kinds import book, draw_book
from tests.test_sorts import draw_single
from worldorpaper.answers import decided_clauses, judge_answer
from worldorpaper.books import Signature
from worldorpaper.deciders import Decider, decide, rounds_enough
from worldorpaper.errors import BadArity, NotOfKind
from worldorpaper.fillings import Fillings
from worldorpaper.forms import form_of
from worldorpaper.growing import Grower, most_nodes
from worldorpaper.kinds import enough, is_single, kinds_of, told_size
from worldorpaper.reading import read_book
from worldorpaper.sorts import least_case
from worldorpaper.truth import book_true
from worldorpaper.worlds import World

ENDLESS = read("all x. not R(x, x)", "all x. R(x, f(x))", "all x. all y. all z. R(x, y) and R(y, z) implies R(x, z)")
CHAIN = read("P(a)", "all x. P(x) implies P(f(x))", "not P(f(f(f(a))))")
TWO = read("all x. f(x) != x")
# No kind, and no world: the fillings see it soon, the trees hardly.
HARD = read("all x. R(x, f(x))", "all x. not R(x, f(f(x)))", "all x. f(f(f(x))) = f(x)", "all x. f(x) = f(f(f(f(x))))")


class PlainDecider:
    """Points 140 to 142 as they stand; roads and their parts are those of the program."""

    def __init__(self, one, picks=(), elder_every=0, deal=(1, 0), cases=True):
        self.book, self.form = one, form_of(one)
        self.clauses = decided_clauses(self.form)
        self.more = {"picks": picks, "elder_every": elder_every}
        self.turn = ["trees"] * deal[0] + ["fillings"] * deal[1]
        self.cases = cases and is_single(one)
        self.rounds, self.limit, self.answer, self.found, self.paper = 0, 1, None, None, None
        self.grower = Grower(self.form.signature, self.clauses, 1, **self.more)
        self.road = Fillings(self.form.signature, self.clauses, picks)

    def step(self):
        if self.answer:
            return
        road = self.turn[self.rounds % len(self.turn)]
        self.rounds += 1
        if self.cases:
            found = least_case(self.book)
            self.answer = ("refuted", None) if found is None else ("world", tables(self.book, found[1]))
        elif road == "trees" or self.road.has_ended():
            self.trees()
        else:
            self.road.step()
            if self.road.heart.refuted is not None:
                self.answer = ("refuted", None)
                self.paper = ("lines", tuple(self.road.paper()))
            elif self.road.world is not None:
                self.found = tables(self.book, self.road.world)

    def trees(self):
        self.grower.step()
        told = told_size(self.book)
        if self.grower.world is not None:
            self.answer = ("world", tables(self.book, self.grower.world))
        elif self.grower.tree is not None:
            self.paper = ("tree", self.limit, self.grower.tree)
            if not self.grower.beyond or told is not None and told <= self.limit:
                self.answer = ("refuted", None)
            else:
                self.limit += 1
                self.grower = Grower(self.form.signature, self.clauses, self.limit, **self.more)


def draw_tight(rng):
    """A book of so many sentences that it often has no world, or none of one thing."""
    texts = ["a != b", "all x. P(x) or R(x, x)", "all x. not P(x) or not R(x, f(x))", "all x. f(x) != x",
             "all x. R(x, f(x))",
             "some x. not P(x)", "all x. P(x) implies P(f(x))", "P(a)", "not P(f(f(a)))",
             "all x. all y. R(x, y) implies P(y)",
             "all x. all y. R(x, y) implies R(y, x)", "not R(f(a), a)", "all x. f(f(x)) = x", "all x. x = a or x = b",
             "all x. some y. R(x, y) and not P(y)", "some x. all y. not R(x, y)", "f(a) = f(b)", "Q",
             "Q implies a = f(a)"]
    return read(*rng.sample(texts, rng.randint(2, 8)))


def tables(one, world):
    names = [name for name, _ in one.signature.functions + one.signature.relations]
    return world.size, {name: world.table(name) for name in names}


def seen(decider):
    """What a decider shows, as PlainDecider has it."""
    answer = None
    if decider.answer is not None:
        world = decider.answer.world
        answer = (decider.answer.verdict, None if world is None else tables(decider.book, world))
    found = None if decider.found is None else tables(decider.book, decider.found)
    return decider.rounds, decider.limit, answer, found


class Start(Case):
    def test_attributes(self):
        one = book("P(a) or not P(a)", "all x. P(x)", "M(b)")
        decider = self.call(Decider, one)
        self.assertIs(decider.book, one)
        self.assertEqual(decider.form.clauses, form_of(one).clauses)
        self.assertEqual(decider.clauses, tuple(decided_clauses(form_of(one))))
        self.assertEqual((decider.told, decider.rounds, decider.limit, decider.answer, decider.found),
                         (2, 0, 1, None, None))
        self.gives(False, decider.has_answer)
        self.assertIsNone(Decider(ENDLESS).told)

    def test_a_book_without_a_form(self):
        self.fails(BadArity, Decider, WIDE)
        self.fails(BadArity, decide, WIDE)
        self.fails(BadArity, decide, WIDE, 0)

    def test_arguments_can_change_later(self):
        picks = [1, 0, 2]
        decider, plain = Decider(HARD, picks=picks, deal=(2, 1)), PlainDecider(HARD, (1, 0, 2), 0, (2, 1))
        picks.clear()
        for _ in range(30):
            decider.step()
            plain.step()
        self.assertEqual(seen(decider), (plain.rounds, plain.limit, plain.answer, plain.found))


class Roads(Case):
    """Points 140 and 141."""

    def test_cases(self):
        decider = Decider(book("P(a)", "some x. not P(x)"))
        self.assertIsNone(decider.step())
        answer = decider.answer
        self.assertEqual((answer.verdict, answer.world.size, answer.paper, answer.rounds),
                         ("world", 2, ("cases", (0, 1)), 1))
        self.assertEqual((decider.rounds, decider.limit, decider.found), (1, 1, None))
        answer = decide(book("P(a)", "not P(a)"))
        self.assertEqual((answer.verdict, answer.world, answer.paper, answer.rounds),
                         ("refuted", None, ("cases", (0, 1)), 1))
        answer = decide(book("P(a)"))
        self.assertEqual((answer.verdict, answer.world.size, answer.paper, answer.rounds), ("world", 1, None, 1))
        # Whatever the deal is.
        self.assertEqual(decide(book("P(a)", "not P(a)"), deal=(1, 5)).paper, ("cases", (0, 1)))

    def test_no_cases(self):
        decider = Decider(book("P(a)", "some x. not P(x)"), cases=False)
        answer = decider.run()
        self.assertEqual((answer.verdict, answer.world.size, answer.paper[:2], decider.limit),
                         ("world", 2, ("tree", 1), 2))
        answer = decide(book("P(a)", "not P(a)"), cases=False)
        self.assertEqual((answer.verdict, answer.paper[0]), ("refuted", "tree"))

    def test_trees(self):
        decider = Decider(TWO)
        self.assertEqual(decider.run().world.size, 2)
        self.assertEqual((decider.answer.paper[:2], decider.limit), (("tree", 1), 2))
        answer = decide(CHAIN, 1000, elder_every=1)
        self.assertEqual((answer.verdict, answer.paper[0]), ("refuted", "tree"))
        # The closed tree of the told size, with a leaf beyond.
        one = read("all x. some y. R(x, y)", "all x. all y. not R(x, y)")
        answer = decide(one)
        self.assertEqual((answer.verdict, answer.paper[:2]), ("refuted", ("tree", 1)))

    def test_the_root_of_the_next_tree_is_opened_by_the_next_round(self):
        decider = Decider(TWO)
        limits = []
        while not decider.has_answer():
            decider.step()
            limits.append(decider.limit)
        # The tree of limit 1 has a node and a leaf that is false.
        self.assertEqual(limits[:3], [1, 2, 2])
        self.assertEqual(decider.answer.rounds, len(limits))

    def test_fillings(self):
        answer = decide(CHAIN, 1000, deal=(1, 9))
        self.assertEqual((answer.verdict, answer.paper[0]), ("refuted", "lines"))
        self.assertIsInstance(answer.paper[1], tuple)
        self.assertTrue(judge_answer(CHAIN, answer))

    def test_the_road_of_fillings_can_end_first(self):
        one = read("a != f(a)", "f(f(a)) != a", "f(f(a)) != f(a)", "all x. R(x, x)")
        decider = Decider(one, deal=(1, 40))
        while decider.found is None and not decider.has_answer():
            decider.step()
        found = decider.found
        self.assertTrue(book_true(found, one))
        self.assertEqual((found.signature.functions, found.signature.relations),
                         (one.signature.functions, one.signature.relations))
        self.assertIsNone(decider.answer)
        before = decider.rounds
        answer = decider.run()
        # Its rounds are rounds of trees now.
        self.assertLess(decider.rounds, before + 40)
        self.assertIs(decider.found, found)
        self.assertLessEqual(answer.world.size, found.size)

    def test_as_the_points_stand(self):
        rng = random.Random(14101)
        counts = {}
        for _ in range(220):
            one = rng.choice((draw_tight, draw_tight, draw_book, lambda source: draw_single(source, 5)))(rng)
            picks = [rng.randrange(4) for _ in range(rng.randint(0, 3))]
            elder, cases = rng.randint(0, 2), rng.random() < 0.3
            deal = rng.choice(((1, 0), (1, 1), (2, 3), (3, 1), (1, 6)))
            decider = Decider(one, picks=picks, elder_every=elder, deal=deal, cases=cases)
            plain = PlainDecider(one, picks, elder, deal, cases)
            for _ in range(45):
                self.assertEqual(decider.has_answer(), plain.answer is not None)
                decider.step()
                plain.step()
                self.assertEqual(state(seen(decider)), state((plain.rounds, plain.limit, plain.answer, plain.found)))
            if decider.has_answer():
                answer = decider.answer
                self.assertEqual(answer.rounds, decider.rounds)
                if answer.paper is not None and not plain.cases:
                    self.assertEqual(state(answer.paper), state(plain.paper))
                if answer.verdict == "world":
                    self.assertEqual(answer.paper is None, answer.world.size == 1)
                key = (answer.verdict, answer.paper[0] if answer.paper else "")
                counts[key] = counts.get(key, 0) + 1
        for key in (("refuted", "cases"), ("refuted", "tree"), ("refuted", "lines"), ("world", ""), ("world", "tree")):
            self.assertGreater(counts.get(key, 0), 2, counts)


class Verdicts(Case):
    """Points 142 to 144."""

    def test_choices_change_no_verdict_and_no_size(self):
        rng = random.Random(14201)
        for _ in range(100):
            one = draw_tight(rng)
            answers = []
            for _ in range(4):
                answer = decide(one, 150, picks=[rng.randrange(4) for _ in range(rng.randint(0, 2))],
                                elder_every=rng.randint(0, 2),
                                deal=rng.choice(((1, 0), (1, 1), (1, 4))), cases=rng.random() < 0.5)
                if answer.verdict != "open":
                    answers.append((answer.verdict, answer.world and answer.world.size))
            self.assertLessEqual(len(set(answers)), 1)

    def test_only_worlds_without_end(self):
        for deal in ((1, 0), (1, 1), (2, 5)):
            decider = Decider(ENDLESS, deal=deal)
            answer = decider.run(80)
            self.assertEqual((answer.verdict, answer.world, answer.paper, answer.rounds), ("open", None, None, 80))
            self.assertIsNone(decider.answer)

    def test_a_refutation_in_the_end(self):
        for more in ({"deal": (1, 1)}, {"deal": (5, 1)}, {"elder_every": 1}, {"elder_every": 3}):
            self.assertEqual(decide(HARD, 3000, **more).verdict, "refuted")
            self.assertEqual(decide(CHAIN, 3000, **more).verdict, "refuted")

    def test_rounds_enough(self):
        one = read("all x. some y. R(x, y) and P(y)", "all x. all y. R(x, y) implies not P(y)")
        signature = form_of(one).signature
        self.assertEqual((told_size(one), len(signature.functions)), (2, 4))
        nodes = most_nodes(signature, 1) + most_nodes(signature, 2)
        self.gives(nodes + 1, rounds_enough, one)
        self.gives((nodes // 3 + 1) * 3, rounds_enough, one, deal=(3, 0))
        self.gives((nodes // 3 + 1) * 7, rounds_enough, one, deal=(3, 4))
        self.gives((2 + 1) * 1, rounds_enough, read_book(""))
        self.fails(NotOfKind, rounds_enough, ENDLESS)
        # A book without a told size and without a form.
        self.fails(NotOfKind, rounds_enough, read_book(
            "relation R 2\nsentence all x. all y. all z. all u. some v. R(x, v) and R(y, v) and R(z, v) and R(u, v) and x != v"))
        self.assertEqual(told_size(WIDE), 1)
        self.fails(BadArity, rounds_enough, WIDE)

    def test_a_told_size_is_always_decided(self):
        rng = random.Random(14301)
        decided = 0
        for _ in range(150):
            one = draw_book(rng)
            told = told_size(one)
            if told is None or told > 3 or len(one.sentences) > 2:
                continue
            deal = rng.choice(((1, 0), (1, 1), (2, 1)))
            decider = Decider(one, deal=deal, picks=[rng.randrange(3) for _ in range(rng.randint(0, 2))], cases=False)
            answer = decider.run(1500)
            if decider.has_answer():
                decided += 1
                self.assertLessEqual(answer.rounds, rounds_enough(one, deal=deal))
                for kind in kinds_of(one):
                    if answer.verdict == "world":
                        self.assertLessEqual(answer.world.size, enough(one, kind))
        self.assertGreater(decided, 40)


class BothRoads(Case):
    """Points 142 and 143 for books whose rounds of fillings go on and on beside the trees."""

    def test_the_answer_comes_after_the_same_rounds_of_trees(self):
        self.assertEqual(told_size(FOUR), 2)
        for deal, rounds in (((1, 0), 2776), ((3, 1), 3701), ((1, 1), 5551), ((1, 3), 11101)):
            answer = decide(FOUR, picks=[4], deal=deal)
            self.assertEqual((answer.verdict, answer.world.size, answer.rounds), ("world", 2, rounds))
            self.assertLessEqual(rounds, rounds_enough(FOUR, deal=deal))
            self.assertTrue(judge_answer(FOUR, answer))

    def test_drawn(self):
        texts = ["all x. all y. A(x, y) implies not B(y) and some z. A(y, z)", "some x. B(x)", "some x. not B(x)",
                 "all x. B(x) implies some y. A(x, y) and not B(y)", "all x. B(x) or some y. A(x, y) and B(y)",
                 "all x. some y. A(x, y) and (B(x) or B(y))", "all x. all y. A(x, y) implies some z. A(y, z)",
                 "all x. all y. not A(x, y) or some z. A(y, z) and (B(z) or B(x))",
                 "all x. not B(x) or some y. A(x, y) and not B(y) and some z. A(y, z)"]
        rng = random.Random(14302)
        rounds = []
        for _ in range(60):
            one = read(*[rng.choice(texts) for _ in range(rng.randint(3, 6))], head="relation A 2\nrelation B 1\n")
            answers = []
            for deal in ((1, 0), (1, 2), (2, 1)):
                decider = Decider(one, deal=deal, picks=[rng.randrange(6) for _ in range(2)], cases=False)
                answer = decider.run(6000)
                if decider.has_answer():
                    answers.append((answer.verdict, answer.world and answer.world.size))
                    rounds.append(answer.rounds)
                    self.assertLessEqual(answer.rounds, rounds_enough(one, deal=deal))
                    self.assertTrue(judge_answer(one, answer))
            self.assertLessEqual(len(set(answers)), 1)
        self.assertGreater(len(rounds), 150)
        self.assertGreater(max(rounds), 2000)


class Runs(Case):
    """Point 147."""

    def test_an_answer_is_kept(self):
        decider = Decider(TWO)
        answer = decider.run()
        before = state([decider.rounds, decider.limit])
        self.assertIs(decider.run(), answer)
        self.assertIs(decider.run(0), answer)
        self.assertIs(decider.run(5), answer)
        decider.step()
        self.assertIs(decider.answer, answer)
        self.assertEqual(state([decider.rounds, decider.limit]), before)
        self.gives(True, decider.has_answer)

    def test_runs_of_rounds(self):
        decider = Decider(ENDLESS, deal=(1, 1))
        for rounds, total in ((0, 0), (3, 3), (0, 3), (1, 4), (10, 14)):
            answer = decider.run(rounds)
            self.assertEqual((answer.verdict, answer.rounds, decider.rounds), ("open", total, total))

    def test_several_runs_are_like_one(self):
        rng = random.Random(14701)
        for _ in range(40):
            one = draw_book(rng)
            deal = rng.choice(((1, 0), (1, 2)))
            whole = decide(one, 40, deal=deal)
            decider = Decider(one, deal=deal)
            left = 40
            while left:
                part = rng.randint(0, left)
                answer = decider.run(part)
                left -= part
            self.assertEqual(state([answer.verdict, answer.rounds, answer.paper]),
                             state([whole.verdict, whole.rounds, whole.paper]))
            self.assertEqual(answer.world and tables(one, answer.world), whole.world and tables(one, whole.world))

    def test_run_and_decide_without_rounds(self):
        self.assertEqual(decide(book("all x. some y. R(x, y)")).world.size, 1)
        self.assertEqual(Decider(book("all x. some y. R(x, y) and not R(y, x)")).told, None)

    def test_signature_of_the_world(self):
        # The form has further functions, the world has none.
        one = read("all x. some y. R(x, y) and x != y")
        world = decide(one).world
        self.assertEqual((world.signature.functions, world.size), (one.signature.functions, 2))
        self.assertIsInstance(world, World)
        self.assertEqual(Signature(one.signature.functions, one.signature.relations).relations,
                         world.signature.relations)
