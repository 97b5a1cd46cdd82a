import itertools
import random

from tests.drawing import Case, draw_sentence, draw_world, state
from worldorpaper.books import Book, Signature
from worldorpaper.choices import with_choices
from worldorpaper.errors import BadArity
from worldorpaper.forms import Form
from worldorpaper.going import worlds_of_size
from worldorpaper.reading import read_book
from worldorpaper.truth import book_true, clauses_true, sentence_true
from worldorpaper.worlds import World

SMALL = Signature([("a", 0), ("f", 1)], [("P", 1), ("R", 2)])


class WithChoices(Case):
    """Point 55."""

    def test_written_out(self):
        book = read_book("relation P 1\nrelation R 2\nsentence all x. some y. R(x, y)\nsentence some y. not P(y)")
        world = World(book.signature, 3, {"P": [True, True, False], "R": [False, False, True, False, False, False,
                                                                        False, True, True]})
        form = Form(book)
        expected = World(form.signature, 3, {"P": [True, True, False], "R": world.table("R"),
                                             "w1": [2, 0, 1], "w2": [2]})
        self.gives(expected, with_choices, world, form)

    def test_no_choices(self):
        book = Book(SMALL, [("all", "x", ("holds", ("P", "x")))])
        world = draw_world(random.Random(1), 3, SMALL)
        self.gives(world, with_choices, world, Form(book))

    def test_two_unknowns(self):
        book = read_book("relation S 3\nsentence all x. all y. some z. S(y, z, x)")
        form = Form(book)
        rng = random.Random(2)
        world = draw_world(rng, 3, book.signature)
        chosen = with_choices(world, form)
        ((name, unknowns, _, _),) = form.chosen
        first_unknown_is_y = unknowns[0] == form.clauses[0][0][1][1]
        self.assertTrue(first_unknown_is_y)
        for y, x in itertools.product(range(3), repeat=2):
            found = [z for z in range(3) if world.holds("S", (y, z, x))]
            self.assertEqual(chosen.value(name, (y, x)), found[0] if found else 0)

    def test_later_choices_see_earlier_ones(self):
        book = read_book("relation R 2\nsentence some x. some y. R(x, y) and not R(y, x)")
        form = Form(book)
        world = World(book.signature, 3, {"R": [True, False, False, False, True, True, False, False, True]})
        chosen = with_choices(world, form)
        self.assertEqual([chosen.table(name) for name, _, _, _ in form.chosen], [(1,), (2,)])

    def test_drawn_forms(self):
        rng = random.Random(3)
        made = 0
        while made < 60:
            try:
                book = Book(SMALL, [draw_sentence_over(rng) for _ in range(2)])
                form = Form(book)
            except BadArity:
                continue
            made += 1
            world = draw_world(rng, rng.randint(1, 3), SMALL)
            grown = self.call(with_choices, world, form)
            self.assertEqual(state([grown.signature, grown.size]), state([form.signature, world.size]))
            for name in ("a", "f", "P", "R"):
                self.gives(world.table(name), grown.table, name)
            for name, unknowns, bound, part in form.chosen:
                for row in itertools.product(world.things, repeat=len(unknowns)):
                    values = dict(zip(unknowns, row))
                    found = [y for y in world.things if sentence_true(grown, part, {**values, bound: y})]
                    self.gives(found[0] if found else 0, grown.value, name, row)


class TruthOfForms(Case):
    """Point 56."""

    def test_books_and_clauses(self):
        rng = random.Random(4)
        made = 0
        answers = {True: 0, False: 0}
        while made < 120:
            try:
                book = Book(SMALL, [draw_sentence_over(rng) for _ in range(rng.randint(0, 2))])
                form = Form(book)
            except BadArity:
                continue
            if len(form.clauses) > 60:
                continue
            made += 1
            for size in (1, 2, 3):
                world = draw_world(rng, size, SMALL)
                answers[book_true(world, book)] += 1
                self.assertIs(clauses_true(with_choices(world, form), form.clauses), book_true(world, book))
        self.assertTrue(min(answers.values()) > 40, answers)

    def test_worlds_of_the_form(self):
        book = read_book("relation P 1\nsentence all x. some y. P(x) iff not P(y)")
        form = Form(book)
        for size in (1, 2):
            for world in worlds_of_size(form.signature, size):
                if clauses_true(world, form.clauses):
                    less = World(book.signature, size, {"P": world.table("P")})
                    self.assertTrue(book_true(less, book))


def draw_sentence_over(rng):
    while True:
        sentence = draw_sentence(rng, 3, ())
        try:
            Book(SMALL, [sentence])
            return sentence
        except ValueError:
            pass
