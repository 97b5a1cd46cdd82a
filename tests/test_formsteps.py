import random

from tests.drawing import SIGNATURE, Case, draw_sentence
from worldorpaper.books import Book, Signature
from worldorpaper.errors import BadArity
from worldorpaper.forms import Form, spread
from worldorpaper.formsteps import first_wrong_step, judge_form
from worldorpaper.sentences import inner_sentences
from worldorpaper.shaping import step_result

P, Q = ("holds", ("P", "x")), ("holds", ("Q",))
EVERY = ("all", "x", ("implies", P, Q))
SOME = ("some", "y", ("holds", ("P", "y")))
SIZED = 40


def drawn_forms(count, seed):
    rng = random.Random(seed)
    made = []
    while len(made) < count:
        try:
            form = Form(Book(SIGNATURE, [draw_sentence(rng, 3, ()) for _ in range(rng.randint(1, 3))]))
        except BadArity:
            continue
        if 0 < len(form.steps) < SIZED and len(form.clauses) < SIZED:
            made.append(form)
    return made


class Accepting(Case):
    """Points 57 and 58: what is right."""

    def test_forms_are_accepted(self):
        for form in drawn_forms(60, 1):
            self.gives(None, first_wrong_step, form.book, form.steps)
            self.gives(None, first_wrong_step, form.book, list(form.steps))
            self.gives(True, judge_form, form.book, form.steps, form.clauses)
            self.gives(True, judge_form, form.book, list(form.steps), list(form.clauses))

    def test_empty(self):
        self.gives(None, first_wrong_step, Book(SIGNATURE, []), [])
        self.gives(True, judge_form, Book(SIGNATURE, []), (), ())
        self.gives(None, first_wrong_step, Book(SIGNATURE, [EVERY]), [])
        self.gives(False, judge_form, Book(SIGNATURE, [EVERY]), [], [])
        self.gives(True, judge_form, Book(SIGNATURE, [Q]), [], list(spread(Q)))
        self.gives(True, judge_form, Book(SIGNATURE, [Q, Q]), [], spread(Q) + spread(Q))
        self.gives(False, judge_form, Book(SIGNATURE, [Q, Q]), [], spread(Q))
        self.gives(False, judge_form, Book(SIGNATURE, []), [], [()])

    def test_rows_in_any_order(self):
        rng = random.Random(2)
        for form in drawn_forms(60, 3):
            queues = {}
            for row in form.steps:
                queues.setdefault(row[0], []).append(row)
            rows = []
            while queues:
                index = rng.choice(list(queues))
                rows.append(queues[index].pop(0))
                if not queues[index]:
                    del queues[index]
            self.gives(None, first_wrong_step, form.book, rows)
            self.gives(True, judge_form, form.book, rows, form.clauses)

    def test_steps_that_a_form_would_not_take(self):
        book = Book(SIGNATURE, [("all", "x", ("and", P, Q)), SOME])
        free = ("and", P, Q)
        rows = [(0, "free", (), "", free), (1, "choose", (), "v", ("holds", ("P", ("v",))))]
        self.gives(None, first_wrong_step, book, rows)
        self.gives(True, judge_form, book, rows, spread(free) + spread(("holds", ("P", ("v",)))))
        self.gives(True, judge_form, book, rows[::-1], spread(free) + spread(("holds", ("P", ("v",)))))


class Wrong(Case):
    """Points 57 and 58: what is wrong."""

    def test_spoilt_rows(self):
        rng = random.Random(4)
        for form in drawn_forms(25, 5):
            at = rng.randrange(len(form.steps))
            index, word, place, name, after = form.steps[at]
            spoilt = [(-1, word, place, name, after), (len(form.book.sentences), word, place, name, after),
                      (index, "none", place, name, after), (index, "", place, name, after),
                      (index, word, place + (0, 0, 0, 0, 0, 0), name, after), (index, word, (-1,), name, after),
                      (index, word, place, name, ("not", after)), (index, word, place, name, ("and", Q, Q)),
                      (index, word, place, name, form.book.sentences[index])]
            if name == "":
                spoilt += [(index, word, place, "v", after), (index, word, place, "x1", after)]
            else:
                spoilt += [(index, word, place, "", after), (index, word, place, "a", after),
                           (index, word, place, "P", after), (index, word, place, "x", after)]
            for row in spoilt:
                steps = form.steps[:at] + (row,) + form.steps[at + 1:]
                self.gives(at, first_wrong_step, form.book, steps)
                self.gives(False, judge_form, form.book, steps, form.clauses)
            self.gives(False, judge_form, form.book, form.steps[:-1], form.clauses)
            # A wrong row counts also where the sentences before it are those of the clauses.
            for row in [(0, "none", (), "", Q), (0, "not", (), "", Q), (-1, "free", (), "", Q)]:
                self.gives(len(form.steps), first_wrong_step, form.book, form.steps + (row,))
                self.gives(False, judge_form, form.book, form.steps + (row,), form.clauses)
            self.assertIsNotNone(first_wrong_step(form.book, form.steps[::-1] + form.steps[:1]))

    def test_spoilt_clauses(self):
        for form in drawn_forms(25, 6):
            clauses = list(form.clauses)
            for wrong in [clauses[:-1], clauses + clauses[:1], [()] + clauses[1:], clauses[1:] + [()], clauses + [()],
                          [clauses[0] + clauses[0]] + clauses[1:]]:
                self.gives(False, judge_form, form.book, form.steps, wrong)
            if len(set(map(str, clauses))) > 1:
                first_other = next(at for at, one in enumerate(clauses) if one != clauses[0])
                turned = list(clauses)
                turned[0], turned[first_other] = turned[first_other], turned[0]
                self.gives(False, judge_form, form.book, form.steps, turned)

    def test_indexes(self):
        after = ("all", "x", ("or", ("not", P), Q))
        row = ("implies", (0,), "", after)
        book = Book(SIGNATURE, [Q, EVERY])
        self.gives(None, first_wrong_step, book, [(1,) + row])
        for index in (-3, -2, -1, 0, 2, 3, 10 ** 30):
            self.gives(0, first_wrong_step, book, [(index,) + row])
            self.gives(1, first_wrong_step, book, [(1,) + row, (index,) + row])
        self.gives(0, first_wrong_step, Book(SIGNATURE, []), [(0,) + row])

    def test_the_present_sentence_counts(self):
        first = ("all", "x", ("or", ("not", P), Q))
        second = ("or", ("all", "x", ("not", P)), Q)
        rows = [(0, "implies", (0,), "", first), (0, "narrow", (), "", second)]
        book = Book(SIGNATURE, [EVERY, EVERY])
        self.gives(None, first_wrong_step, book, rows)
        self.gives(0, first_wrong_step, book, rows[::-1])
        self.gives(2, first_wrong_step, book, rows + rows[:1])
        self.gives(1, first_wrong_step, book, [rows[0], (1,) + rows[1][1:]])
        self.gives(None, first_wrong_step, book, [rows[0], (1,) + rows[0][1:], rows[1], (1,) + rows[1][1:]])

    def test_names(self):
        signature = Signature([("a", 0), ("v1", 1)], [("P", 1), ("Q", 0)])
        book = Book(signature, [("all", "x", ("and", P, ("some", "u", Q))), ("some", "y", ("holds", ("P", "y")))])

        def apart(name):
            return (0, "apart", (), name, step_result("apart", book.sentences[0], (), name))

        def choose(name):
            return (1, "choose", (), name, ("holds", ("P", (name,))))

        for name in ("v", "x1", "y1", "abcdefghijkl"):
            self.gives(None, first_wrong_step, book, [apart(name)])
            self.gives(None, first_wrong_step, book, [choose(name)])
            self.gives(1, first_wrong_step, book, [apart(name), choose(name)])
            self.gives(1, first_wrong_step, book, [choose(name), apart(name)])
            self.gives(None, first_wrong_step, book, [choose(name), apart("z")])
        for name in ("a", "v1", "y"):
            self.gives(0, first_wrong_step, book, [apart(name)])
        for name in ("x", "u"):
            self.gives(0, first_wrong_step, book, [(0, "apart", (), name, ("all", name, Q))])
        for name in ("a", "v1", "x", "y", "u", "Q", "P", "", "all", "W"):
            self.gives(0, first_wrong_step, book, [choose(name)])

    def test_names_of_other_steps(self):
        after = ("all", "x", ("or", ("not", P), Q))
        for name in ("v", "x", " ", "all"):
            self.gives(0, first_wrong_step, Book(SIGNATURE, [EVERY]), [(0, "implies", (0,), name, after)])

    def test_a_name_that_an_apart_has_given_and_taken_away(self):
        sentence = ("all", "x", P)
        rows = [(0, "apart", (), "u", ("all", "u", ("holds", ("P", "u")))),
                (0, "apart", (), "v", ("all", "v", ("holds", ("P", "v"))))]
        book = Book(SIGNATURE, [sentence])
        self.gives(None, first_wrong_step, book, rows)
        self.gives(2, first_wrong_step, book, rows + rows[:1])
        self.gives(2, first_wrong_step, book, rows + [(0, "apart", (), "x", sentence)])

    def test_what_cannot_be_spread(self):
        for sentence in (EVERY, SOME, ("implies", Q, Q), ("not", ("not", Q)), ("and", Q, SOME)):
            self.assertTrue(inner_sentences(sentence))
            self.gives(False, judge_form, Book(SIGNATURE, [sentence]), [], [])
            self.gives(False, judge_form, Book(SIGNATURE, [Q, sentence]), [], spread(Q))
