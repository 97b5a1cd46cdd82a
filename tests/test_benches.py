import random

from tests.drawing import SIGNATURE as WIDE_SIGNATURE, Case, state
from tests.test_answers import WIDE
from tests.test_kinds import SIGNATURE, book
from worldorpaper.answers import judge_answer
from worldorpaper.benches import Bench, replay
from worldorpaper.books import Book
from worldorpaper.deciders import decide
from worldorpaper.errors import BadDeed, BadSentence, BadTerm
from worldorpaper.kinds import told_size
from worldorpaper.questions import follows, sentences_used
from worldorpaper.reading import read_sentence


def s(text):
    return read_sentence(text, SIGNATURE)


def bench(*rows):
    made = Bench(SIGNATURE)
    for label, text in rows:
        made.add(label, s(text))
    return made


def shown(one):
    """All that a bench shows, without asking it anything."""
    return state([one.labels(), one.derived(), [one.sentence(label) for label in one.labels()],
                  list(one.book().sentences),
                  list(one.full_book().sentences), one.deeds()])


class Sentences(Case):
    """Points 158 and 159."""

    def test_a_new_bench(self):
        one = self.call(Bench, SIGNATURE)
        self.assertEqual((one.reused, one.labels(), one.derived(), one.deeds()), (0, [], [], []))
        self.assertEqual((one.book().sentences, one.full_book().sentences), ((), ()))
        self.assertIsInstance(one.book(), Book)
        self.assertEqual(one.book().signature.functions, SIGNATURE.functions)

    def test_add(self):
        one = Bench(SIGNATURE)
        self.assertIsNone(one.add("second", s("Q")))
        self.assertIsNone(one.add("first", s("P(a)")))
        self.gives(["second", "first"], one.labels)
        self.gives(s("P(a)"), one.sentence, "first")
        self.assertEqual(one.book().sentences, (s("Q"), s("P(a)")))
        self.assertEqual(one.full_book().sentences, (s("Q"), s("P(a)")))
        # The same sentence under another label.
        one.add("x", s("Q"))
        self.gives(["second", "first", "x"], one.labels)

    def test_labels(self):
        one = bench(("one", "Q"), ("two", "P(a)"))
        one.derive("three", s("P(a) or Q"))
        before = shown(one)
        for label in ("", "One", "1", "not", "all", "iff", "true", "a b", "a_", "abcdefghijklm", "one", "two", "three"):
            self.fails(BadDeed, one.add, label, s("Q"))
            self.fails(BadDeed, one.derive, label, s("Q"))
            # The label is looked at before the sentence.
            self.fails(BadDeed, one.add, label, ("holds", ("Z",)))
            self.fails(BadDeed, one.derive, label, ("holds", ("Z",)), 3)
        for label in ("abcdefghijkl", "a", "f", "x1", "q"):
            one.add(label, s("Q"))
        self.assertNotEqual(shown(one), before)

    def test_sentences_that_do_not_fit(self):
        one = bench(("one", "Q"))
        before = shown(one)
        for error, sentence in [(BadSentence, ("holds", ("Z",))), (BadSentence, ("holds", ("P",))),
                                (BadTerm, ("holds", ("P", "x"))),
                                (BadTerm, ("same", ("a",), ("e",))), (BadSentence, ("all", "f", s("Q")))]:
            self.fails(error, one.add, "new", sentence)
            self.fails(error, one.derive, "new", sentence)
            self.fails(error, one.derive, "new", sentence, 5)
        self.assertEqual(shown(one), before)

    def test_no_such_label(self):
        one = bench(("one", "Q"))
        for label in ("", "two", "One", "Q"):
            self.fails(BadDeed, one.sentence, label)
            self.fails(BadDeed, one.drop, label)

    def test_lists_are_new(self):
        one = bench(("one", "Q"))
        one.derive("two", s("Q or P(a)"))
        before = shown(one)
        one.labels().clear()
        one.derived().clear()
        one.deeds().clear()
        self.assertEqual(shown(one), before)


class Deriving(Case):
    """Point 159."""

    def test_three_words(self):
        # The paper of cases cannot name the second one, which is false in no world.
        one = bench(("p", "P(a)"), ("q", "Q or not Q"), ("m", "all x. P(x) implies M(x)"))
        before = shown(one)
        self.assertEqual(one.derive("new", s("M(b)")), "no")
        self.assertEqual(one.derive("new", s("not M(a)")), "no")
        self.assertEqual(shown(one), before)
        self.assertEqual(one.derive("new", s("M(a)")), "yes")
        self.gives([("new", s("M(a)"), ("p", "m"))], one.derived)
        self.gives(s("M(a)"), one.sentence, "new")
        self.gives(["p", "q", "m"], one.labels)
        self.assertEqual(one.full_book().sentences[3:], (s("M(a)"),))
        self.assertEqual(len(one.book().sentences), 3)
        other = bench(("one", "all x. f(x) != a"), ("two", "all x. all y. f(x) != f(y) or x = y"), ("three", "P(a)"))
        before = shown(other)
        self.assertEqual(other.derive("new", s("R(a, a)"), 4), "open")
        self.assertEqual(shown(other), before)

    def test_what_rests_on_derived_sentences(self):
        one = bench(("p", "P(a)"), ("pm", "all x. P(x) implies M(x)"), ("mo", "M(a) implies O"), ("oq", "O implies Q"))
        self.assertEqual(one.derive("m", s("M(a)")), "yes")
        self.assertEqual(one.derive("o", s("O")), "yes")
        self.assertEqual(one.derive("q", s("Q")), "yes")
        rows = {label: rests for label, _, rests in one.derived()}
        for label, rests in rows.items():
            part = Book(SIGNATURE, [one.sentence(name) for name in rests])
            self.assertEqual(follows(part, one.sentence(label))[0], "yes")
            self.assertEqual(list(rests), [name for name in one.labels() if name in rests])
        self.assertEqual(rows["q"], ("p", "pm", "mo", "oq"))
        self.assertEqual([label for label, _, _ in one.derived()], ["m", "o", "q"])

    def test_a_derived_sentence_is_used(self):
        # The clause of r is subsumed by the one of d, so the tree can name r only by way of d.
        one = bench(("r", "R(a, a) or Q"), ("n", "not Q"))
        self.assertEqual(one.derive("d", s("R(a, a)")), "yes")
        full = one.full_book().with_sentence(("not", s("some x. R(x, x)")))
        self.assertNotIn(0, sentences_used(full, follows(one.full_book(), s("some x. R(x, x)"))[1].paper))
        self.assertEqual(one.derive("e", s("some x. R(x, x)")), "yes")
        self.assertEqual([row[2] for row in one.derived()], [("r", "n"), ("r", "n")])
        one.drop("d")
        self.assertEqual([row[0] for row in one.derived()], ["e"])
        one.drop("r")
        self.gives([], one.derived)

    def test_what_rests_on_nothing(self):
        one = bench(("p", "a = a"))
        self.assertEqual(one.derive("t", s("Q or not Q")), "yes")
        self.gives([("t", s("Q or not Q"), ())], one.derived)
        one.drop("p")
        self.gives([("t", s("Q or not Q"), ())], one.derived)
        empty = Bench(SIGNATURE)
        self.assertEqual(empty.derive("t", s("all x. x = x")), "yes")
        self.gives([("t", s("all x. x = x"), ())], empty.derived)

    def test_as_the_point_stands(self):
        rng = random.Random(15901)
        counts = {"yes": 0, "no": 0, "open": 0}
        deeper = 0
        for _ in range(150):
            one = bench(("r", "R(a, a) or Q"), ("n", "not Q"))
            for number in range(7):
                text, label, derived = rng.choice(LINKED), "l" + str(number), one.derived()
                if rng.random() < 0.3:
                    one.add(label, s(text))
                    continue
                full = one.full_book()
                rounds = 40 if told_size(full.with_sentence(("not", s(text)))) is None else None
                word, answer = follows(full, s(text), rounds)
                self.assertEqual(one.derive(label, s(text), rounds), word)
                counts[word] += 1
                if word != "yes":
                    self.assertEqual(one.derived(), derived)
                    continue
                used = sentences_used(full.with_sentence(("not", s(text))), answer.paper)
                labels = one.labels() + [row[0] for row in derived]
                rests = set()
                for index in used:
                    if index < len(labels):
                        name = labels[index]
                        deeper += name not in one.labels()
                        rests |= {name} if name in one.labels() else set(dict((row[0],
                            row[2]) for row in derived)[name])
                expected = (label, s(text), tuple(name for name in one.labels() if name in rests))
                self.assertEqual(one.derived(), derived + [expected])
        self.assertGreater(min(counts["yes"], counts["no"]), 20)
        self.assertGreater(deeper, 20)


TEXTS = ("P(a)", "Q", "all x. P(x) implies M(x)", "M(a)", "M(a) or Q", "not P(b)", "some x. P(x)", "Q implies O", "O",
         "a = b",
         "P(b)", "some x. not M(x)", "Q or not O", "all x. R(x, f(x))", "R(a, f(a))", "some y. R(a, y)")
# A derived sentence can make one needless from which it follows.
LINKED = ("R(a, a) or Q", "not Q", "R(a, a)", "some x. R(x, x)", "R(a, a) and O", "R(a, a) or O", "O", "Q implies O",
          "some x. R(x, f(x))", "f(a) = a or Q", "f(a) = a", "all x. f(x) = a")


class Dropping(Case):
    """Point 160."""

    def test_a_sentence_and_what_rests_on_it(self):
        one = bench()
        self.assertEqual(one.derive("nothing", s("M(a) or not M(a)")), "yes")
        one.add("q", s("Q"))
        self.assertEqual(one.derive("two", s("Q or O")), "yes")
        one.add("p", s("P(a)"))
        one.add("m", s("all x. P(x) implies M(x)"))
        self.assertEqual(one.derive("one", s("M(a)")), "yes")
        self.assertEqual(one.derive("four", s("some x. M(x)")), "yes")
        self.assertEqual([row[2] for row in one.derived()][:2], [(), ("q",)])
        self.assertTrue(all("p" in row[2] for row in one.derived()[2:]))
        self.assertIsNone(one.drop("p"))
        self.gives(["q", "m"], one.labels)
        self.assertEqual([label for label, _, _ in one.derived()], ["nothing", "two"])
        self.assertIsNone(one.drop("q"))
        self.assertEqual([label for label, _, _ in one.derived()], ["nothing"])
        # The labels are free again.
        one.add("p", s("Q"))
        one.add("one", s("Q"))
        self.gives(["m", "p", "one"], one.labels)

    def test_a_derived_sentence_alone(self):
        one = bench(("p", "P(a)"), ("m", "all x. P(x) implies M(x)"))
        one.derive("one", s("M(a)"))
        one.derive("two", s("some x. M(x)"))
        rests = one.derived()[1]
        self.assertIsNone(one.drop("one"))
        self.gives([rests], one.derived)
        self.gives(["p", "m"], one.labels)
        self.fails(BadDeed, one.drop, "one")


class Asking(Case):
    """Point 161."""

    def test_an_answer_is_given_again(self):
        one = bench(("p", "P(a)"))
        first = one.ask()
        self.assertEqual((first.verdict, first.world.size, one.reused), ("world", 1, 0))
        self.assertIs(one.ask(), first)
        self.assertIs(one.ask(5), first)
        self.assertEqual(one.reused, 2)
        # The world makes the later book true as well.
        one.add("q", s("P(b)"))
        self.assertIs(one.ask(), first)
        one.add("r", s("not Q"))
        answer = one.ask()
        self.assertEqual(answer is first, not first.world.holds("Q", ()))

    def test_kept_answers_for_later_books(self):
        one = bench(("p", "P(a)"), ("n", "not P(a)"))
        refuted = one.ask()
        self.assertEqual((refuted.verdict, refuted.paper), ("refuted", ("cases", (0, 1))))
        one.drop("n")
        world = one.ask()
        self.assertEqual((world.verdict, one.reused), ("world", 0))
        # The refuted book is back, by a deed, and by taking back one.
        one.add("m", s("not P(a)"))
        self.assertIs(one.ask(), refuted)
        one.undo()
        self.assertIs(one.ask(), world)
        one.undo()
        self.assertIs(one.ask(), refuted)
        self.assertEqual(one.reused, 3)

    def test_the_earliest_one(self):
        one = bench(("p", "P(a)"))
        first = one.ask()
        one.add("n", s("some x. not P(x)"))
        second = one.ask()
        self.assertEqual((second.world.size, one.reused), (2, 0))
        one.drop("n")
        self.assertIs(one.ask(), first)
        # The world of two things is not the least one now, and it was made later.
        one.drop("p")
        self.assertIs(one.ask(), first)

    def test_open_answers_are_not_kept(self):
        one = bench(("one", "all x. f(x) != a"), ("two", "all x. all y. f(x) != f(y) or x = y"))
        for rounds in (3, 0, 7):
            answer = one.ask(rounds)
            self.assertEqual((answer.verdict, answer.rounds, one.reused), ("open", rounds, 0))
        first = bench(("one", "all x. f(x) != x"))
        self.assertEqual(first.ask(1).verdict, "open")
        answer = first.ask(100)
        self.assertEqual(answer.verdict, "world")
        # Where a fresh decision is open, a kept answer may not be.
        self.assertIs(first.ask(0), answer)

    def test_derived_sentences_play_no_part(self):
        one = bench(("p", "P(a)"))
        one.derive("d", s("some x. P(x)"))
        answer = one.ask()
        self.assertTrue(judge_answer(one.book(), answer))
        fresh = decide(one.book())
        self.assertEqual((answer.verdict, answer.rounds, answer.paper), (fresh.verdict, fresh.rounds, fresh.paper))

    def test_as_the_point_stands(self):
        rng = random.Random(16101)
        reused = fresh_ones = 0
        for _ in range(40):
            one, kept = bench(), []
            for number in range(10):
                kind = rng.randrange(4)
                if kind == 0 and one.labels():
                    one.drop(rng.choice(one.labels()))
                elif kind == 1:
                    one.undo()
                else:
                    one.add("l" + str(number), s(rng.choice(TEXTS + ("not Q", "not M(a)", "some x. x != a"))))
                rounds = None if told_size(one.book()) is not None else 60
                before = one.reused
                answer = one.ask(rounds)
                good = [other for other in kept if judge_answer(one.book(), other)]
                fresh = decide(one.book(), rounds)
                if good:
                    reused += 1
                    self.assertIs(answer, good[0])
                    self.assertEqual(one.reused, before + 1)
                else:
                    fresh_ones += 1
                    self.assertEqual(one.reused, before)
                    self.assertEqual(state([answer.verdict, answer.paper, answer.rounds]),
                                     state([fresh.verdict, fresh.paper, fresh.rounds]))
                    if answer.verdict != "open":
                        kept.append(answer)
                if "open" not in (answer.verdict, fresh.verdict):
                    self.assertEqual(answer.verdict, fresh.verdict)
                    self.assertEqual(answer.world and answer.world.size, fresh.world and fresh.world.size)
        self.assertGreater(min(reused, fresh_ones), 60)


class Deeds(Case):
    """Point 162."""

    def test_deeds(self):
        one = Bench(SIGNATURE)
        self.gives(False, one.undo)
        one.add("p", s("P(a)"))
        one.derive("q", s("some x. P(x)"))
        one.derive("no", s("Q"))
        one.derive("r", s("P(a) or Q"), 50)
        one.ask()
        one.drop("q")
        expected = [("add", "p", s("P(a)")), ("derive", "q", s("some x. P(x)"), None),
                    ("derive", "r", s("P(a) or Q"), 50),
                    ("drop", "q")]
        self.gives(expected, one.deeds)
        for error, label in ((BadDeed, "p"), (BadSentence, "new")):
            self.fails(error, one.add, label, ("holds", ("Z",)))
        self.fails(BadDeed, one.drop, "q")
        self.gives(expected, one.deeds)

    def test_undo(self):
        one = Bench(SIGNATURE)
        states = [shown(one)]
        one.add("p", s("P(a)"))
        states.append(shown(one))
        one.add("q", s("Q"))
        states.append(shown(one))
        one.derive("d", s("P(a) and Q"))
        states.append(shown(one))
        one.drop("p")
        states.append(shown(one))
        self.assertEqual(one.derived(), [])
        for before in states[-2::-1]:
            self.assertIs(one.undo(), True)
            self.assertEqual(shown(one), before)
        self.assertIs(one.undo(), False)
        self.assertEqual(shown(one), states[0])
        # Done anew.
        one.add("p", s("Q"))
        self.gives([("add", "p", s("Q"))], one.deeds)

    def test_undo_keeps_the_order(self):
        one = bench(("p", "P(a)"), ("q", "Q"), ("r", "O"))
        one.drop("p")
        one.undo()
        self.gives(["p", "q", "r"], one.labels)

    def test_replay(self):
        rng = random.Random(16201)
        for _ in range(40):
            one = bench()
            for number in range(10):
                kind = rng.randrange(6)
                labels = one.labels() + [row[0] for row in one.derived()]
                text = s(rng.choice(TEXTS[:-3]))
                if kind == 0 and labels:
                    one.drop(rng.choice(labels))
                elif kind == 1:
                    one.undo()
                elif kind < 4:
                    one.derive("l" + str(number), text, rng.choice((None, 30)))
                else:
                    one.add("l" + str(number), text)
            deeds = one.deeds()
            again = self.call(replay, SIGNATURE, rng.choice((deeds, tuple(deeds))))
            self.assertEqual(shown(again), shown(one))
            while one.undo():
                self.assertTrue(again.undo())
                self.assertEqual(shown(again), shown(one))
        self.assertEqual(replay(SIGNATURE, []).labels(), [])

    def test_a_signature_of_its_own(self):
        one = Bench(WIDE_SIGNATURE)
        one.add("s", ("holds", ("S", ("a",), ("b",), ("a",))))
        self.assertEqual(one.ask().verdict, "world")
        wide = Bench(WIDE.signature)
        wide.add("w", WIDE.sentences[0])
        self.assertEqual(wide.book().sentences, WIDE.sentences)
        self.assertEqual(told_size(book("Q")), 1)
