import random

from tests.drawing import Case
from tests.test_answers import read
from tests.test_deciders import CHAIN, ENDLESS, draw_tight
from tests.test_kinds import book
from tests.test_sorts import draw_single
from worldorpaper.answers import Answer, decided_clauses, decided_origins, judge_answer
from worldorpaper.books import Book
from worldorpaper.deciders import decide
from worldorpaper.errors import BadSentence, BadTerm
from worldorpaper.forms import form_of
from worldorpaper.growing import grow
from worldorpaper.kinds import enough, kinds_of, listing, told_size
from worldorpaper.questions import follows, independent, least_at_odds, sentences_used
from worldorpaper.reading import read_sentence
from worldorpaper.trees import has_beyond


def sentence(one, text):
    return read_sentence(text, one.signature)


def part(one, indexes):
    return Book(one.signature, [one.sentences[index] for index in indexes])


class Follows(Case):
    """Point 155."""

    def asks(self, word, one, text, rounds=None, **more):
        found, answer = self.call(follows, one, sentence(one, text), rounds, **more)
        self.assertEqual(found, word)
        self.assertIsInstance(answer, Answer)
        self.assertTrue(judge_answer(one.with_sentence(("not", sentence(one, text))), answer))
        self.assertEqual(answer.verdict, {"yes": "refuted", "no": "world", "open": "open"}[word])
        return answer

    def test_three_words(self):
        one = book("P(a)", "all x. P(x) implies M(x)")
        self.asks("yes", one, "M(a)")
        # The opposite follows, and neither follows.
        self.asks("no", one, "not M(a)")
        self.asks("no", one, "P(b)")
        self.asks("no", one, "not P(b)")
        self.asks("yes", book("P(a)", "not P(a)"), "Q")
        self.asks("yes", book(), "Q or not Q")
        self.asks("no", book(), "Q")
        self.asks("open", ENDLESS, "R(a, a) or P(a)", 5)
        self.asks("open", ENDLESS, "some x. R(x, a)", 0)

    def test_choices(self):
        answer = self.asks("yes", CHAIN.without(2), "P(f(f(f(a))))", 500, deal=(1, 5))
        self.assertEqual(answer.paper[0], "lines")
        answer = self.asks("yes", CHAIN.without(2), "P(f(f(f(a))))", 500, picks=(1, 0, 2), deal=(5, 1))
        self.assertEqual(answer.rounds, decide(CHAIN, 500, picks=(1, 0, 2), deal=(5, 1)).rounds)
        # What is not passed has the default of decide.
        answer = self.asks("yes", CHAIN.without(2), "P(f(f(f(a))))", 500)
        self.assertEqual((answer.rounds, answer.paper), (decide(CHAIN, 500).rounds, decide(CHAIN, 500).paper))

    def test_sentences_that_do_not_fit(self):
        one = book("P(a)")
        self.fails(BadSentence, follows, one, ("holds", ("Z", ("a",))))
        self.fails(BadTerm, follows, one, ("holds", ("P", "x")))
        self.fails(BadSentence, follows, one, ("all", "a", ("holds", ("P", "a"))), 0)


class Independent(Case):
    """Point 155."""

    def test_three_words(self):
        one = book("P(a)", "all x. P(x) implies M(x)", "M(a)", "not P(b)", "not M(c)", "not P(c)")
        for index, word in enumerate(("yes", "yes", "no", "yes", "yes", "no")):
            self.gives(word, independent, one, index)
        # The opposite follows from the others.
        self.gives("no", independent, book("P(a)", "not P(a)"), 0)
        self.gives("no", independent, book("P(a)", "not P(a)"), 1)
        self.gives("yes", independent, book("Q"), 0)
        self.gives("no", independent, book("Q or not Q"), 0)
        self.gives("no", independent, book("Q and not Q"), 0)

    def test_open(self):
        # Neither is answered in so few rounds, and then only one of both.
        self.gives("open", independent, ENDLESS.with_sentence(sentence(ENDLESS, "P(a)")), 3, 20)
        self.gives("open", independent, CHAIN, 0, 1)
        one = ENDLESS.with_sentence(sentence(ENDLESS, "R(a, f(a))"))
        self.gives("no", independent, one, 3, 100)
        # It follows; in which order both are asked makes no difference.
        one = ENDLESS.with_sentence(sentence(ENDLESS, "not R(a, f(a))"))
        self.gives("no", independent, one, 3, 100)

    def test_one_open_and_one_answered_no(self):
        # Without end if P holds somewhere, and a world of one thing otherwise.
        one = read("(all x. not P(x)) or (all x. not R(x, x)) and (all x. R(x, f(x))) and (all x. all y. all z. "
                   "R(x, y) and R(y, z) implies R(x, z))", "some x. P(x)")
        self.assertEqual(follows(one.without(1), one.sentences[1], 60)[0], "no")
        self.assertEqual(follows(one.without(1), ("not", one.sentences[1]), 60)[0], "open")
        self.gives("open", independent, one, 1, 60)


class Used(Case):
    """Point 156."""

    def test_cases(self):
        one = book("Q", "P(a)", "O or not O", "not P(a)")
        self.gives([1, 3], sentences_used, one, ("cases", (1, 3, 1, 3)))
        self.gives([0, 1, 3], sentences_used, one, ("cases", (0, 3, 1, 0)))

    def test_trees(self):
        one = read("Q or not Q", "R(a, a)", "P(a)", "all x. P(x) implies P(f(x))", "R(b, b)", "not P(f(a))")
        paper = decide(one, 200, elder_every=1).paper
        self.assertEqual(paper[0], "tree")
        # Each of the leaves R(a, a) and R(b, b) is named on the way.
        self.gives([1, 2, 3, 4, 5], sentences_used, one, paper)
        # The indexes are those of decided clauses, and some of the form are not needed.
        self.gives([1, 5], sentences_used, one, ("tree", 1, ("cell", "Q", (), (("false", 0, ()), ("false", 4, (0,))))))

    def test_lines(self):
        one = read("Q or not Q", "R(a, a)", "P(a)", "all x. P(x) implies P(f(x))", "R(b, b)", "not P(f(a))")
        paper = decide(one, 300, deal=(1, 20)).paper
        self.assertEqual(paper[0], "lines")
        self.gives([2, 3, 5], sentences_used, one, paper)

    def test_the_listing_sentence(self):
        # Three things by f, and no more than a and b.
        one = read("Q", "all x. x = a or x = b", "all x. f(x) != x", "all x. f(f(x)) != x",
                   "all x. R(x, f(x)) and P(f(x))")
        self.assertEqual((kinds_of(one), listing(one)), (["listed"], (1, 2)))
        paper = decide(one).paper
        self.assertEqual(paper[:2], ("tree", 2))
        form = form_of(one)
        origins = decided_origins(form)
        used = sorted(set(origins[index] for index in self.indexes(paper[2])))
        expected = sorted(set(used + [1])) if has_beyond(paper[2]) else used
        self.gives(expected, sentences_used, one, paper)
        # A tree with a leaf beyond that does not name the sentence.
        tree = ("cell", "f", (0,), (("false", 4, ()), ("beyond",)))
        self.gives(sorted({1, origins[4]}), sentences_used, one, ("tree", 2, tree))
        closed = ("cell", "f", (0,), (("false", 4, ()), ("false", 4, ())))
        self.gives([origins[4]], sentences_used, one, ("tree", 2, closed))

    def indexes(self, tree):
        if tree[0] == "cell":
            return [index for child in tree[3] for index in self.indexes(child)]
        return [tree[1]] if tree[0] == "false" else []

    def test_another_kind_with_a_size_that_is_enough(self):
        # Besides `listed` (1) the book is `linked` (1), `prefix` (1) and `single` (2).
        one = read("all x. x = a", "all x. P(x)", "not P(a)")
        leaf = ("false", 1, (0,))
        tree = ("cell", "b", (), (leaf, ("beyond",)))
        sizes = {word: enough(one, word) for word in kinds_of(one)}
        self.assertEqual(sizes, {"listed": 1, "prefix": 1, "single": 3, "linked": 2})
        origin = decided_origins(form_of(one))[1]
        self.gives([origin], sentences_used, one, ("tree", 1, tree))
        two = read("all x. x = a", "all x. some y. R(x, y) and not R(y, x)", "all x. P(x)", "some y. not P(y)")
        self.assertEqual({word: enough(two, word) for word in kinds_of(two)}, {"listed": 1})
        origin = decided_origins(form_of(two))[1]
        self.gives(sorted({0, origin}), sentences_used, two, ("tree", 1, tree))
        three = read("all x. x = a", "some x. some y. x != y", "P(b)", "not P(b)", "all x. some y. P(x) or x != y")
        self.assertEqual({word: enough(three, word) for word in kinds_of(three)}, {"listed": 1, "single": 6})
        for limit, indexes in ((1, 2), (5, 2), (6, 1), (7, 1)):
            self.assertEqual(len(sentences_used(three, ("tree", limit, ("cell", "b", (),
                (("false", 2, ()), ("beyond",)))))), indexes)

    def test_the_used_sentences_are_at_odds(self):
        rng = random.Random(15601)
        checked = beyond = 0
        for _ in range(250):
            one = draw_tight(rng)
            answer = decide(one, 300, deal=rng.choice(((1, 0), (1, 3))), elder_every=rng.randint(0, 1),
                            cases=rng.random() < 0.5)
            if answer.verdict == "refuted":
                checked += 1
                used = self.call(sentences_used, one, answer.paper)
                again = decide(part(one, used), 2000, deal=(1, 1), elder_every=1)
                self.assertEqual(again.verdict, "refuted", used)
                if answer.paper[0] == "tree" and has_beyond(answer.paper[2]):
                    beyond += 1
                    self.assertLessEqual(told_size(part(one, used)), answer.paper[1])
        self.assertGreater(checked, 20)
        self.assertGreater(beyond, 1)


class AtOdds(Case):
    """Point 157."""

    def test_written_out(self):
        self.gives(None, least_at_odds, book("P(a)"), 10)
        self.gives(None, least_at_odds, book(), 10)
        self.gives([0, 1], least_at_odds, book("P(a)", "not P(a)"), 10)
        self.gives([0], least_at_odds, book("Q and not Q"), 10)
        # The first one that can go goes.
        self.gives([2, 3], least_at_odds, book("P(a)", "Q", "P(a)", "not P(a)"), 10)
        self.gives([1, 2], least_at_odds, book("P(a)", "not P(a)", "P(a)", "M(b)"), 10)
        self.gives([1, 2, 4], least_at_odds, book("Q", "P(a)", "all x. P(x) implies M(x)", "Q", "not M(a)", "O"), 0)

    def test_rounds_for_books_without_a_told_size(self):
        self.assertIsNone(told_size(CHAIN))
        enough_rounds = decide(CHAIN).rounds
        self.gives([0, 1, 2], least_at_odds, CHAIN, enough_rounds)
        self.gives(None, least_at_odds, CHAIN, enough_rounds - 1)
        self.gives(None, least_at_odds, CHAIN, 0)
        # What has a told size is decided without a limit.
        one = read("Q", "not Q", "all x. R(x, f(x))")
        self.assertIsNone(told_size(one))
        self.gives(None, least_at_odds, one, 2)
        self.gives([0, 1], least_at_odds, one, 3)
        self.gives([0, 1], least_at_odds, one.without(2), 0)

    def test_as_the_point_stands(self):
        def is_refuted(indexes):
            told = told_size(part(one, indexes))
            tolds.append(told)
            return decide(part(one, indexes), 60 if told is None else None).verdict == "refuted"

        rng = random.Random(15701)
        found = least = 0
        for _ in range(120):
            one, tolds = rng.choice((draw_tight, lambda source: draw_single(source, 6)))(rng), []
            left = list(range(len(one.sentences)))
            if not is_refuted(left):
                self.gives(None, least_at_odds, one, 60)
                continue
            found += 1
            for index in range(len(one.sentences)):
                if is_refuted([other for other in left if other != index]):
                    left.remove(index)
            self.gives(left, least_at_odds, one, 60)
            self.assertEqual(decide(part(one, left), 2000, deal=(1, 1)).verdict, "refuted")
            if None not in tolds:
                least += 1
                for index in left:
                    self.assertEqual(decide(part(one, [other for other in left if other != index])).verdict, "world")
        self.assertGreater(found, 10)
        self.assertGreater(least, 3)

    def test_trees_that_close(self):
        # The form of a part is another one, so that its clauses have other names.
        one = read("all x. some y. R(x, y)", "some x. P(x)", "all x. all y. not R(x, y)", "some x. not P(x)")
        self.gives([0, 2], least_at_odds, one, 50)
        clauses = decided_clauses(form_of(part(one, [0, 2])))
        self.assertIsNotNone(grow(form_of(part(one, [0, 2])).signature, clauses, 1).tree)
