import random

from tests.drawing import GROUND, SIGNATURE, Case, draw_atom, draw_term
from worldorpaper.numbering import NUMBER_OF_TOP, Sides
from worldorpaper.terms import TOP, fill_term, part_at, parts_of, places_of, replace_at, term_text

A, B = ("a",), ("b",)
DEEP = 5000


def times(count, term=A):
    for _ in range(count):
        term = ("f", term)
    return term


def draw_sides(rng, count):
    """Sides without unknowns, of which many have parts in common."""
    sides = [TOP]
    for _ in range(count):
        draw = rng.choice((draw_term, draw_atom))
        sides.append(draw(rng, 3, (), rng.choice((GROUND, GROUND, SIGNATURE))))
    return sides


class Numbers(Case):
    def test_top(self):
        sides = Sides()
        self.assertEqual((sides.number_of(TOP), sides.listed), (NUMBER_OF_TOP, [TOP]))
        self.assertIs(sides.is_atom(NUMBER_OF_TOP), False)

    def test_equal_sides(self):
        rng = random.Random(1)
        sides, numbers = Sides(), {}
        for side in draw_sides(rng, 400):
            number = sides.number_of(side)
            self.assertEqual(sides.listed[number], side)
            self.assertEqual(numbers.setdefault(side, number), number)
            self.assertEqual(sides.is_atom(number), side[0][:1].isupper())
            self.assertEqual(sides.names[number], side[0])
            self.assertEqual([sides.listed[argument] for argument in sides.arguments[number]], list(side[1:]))
            self.assertTrue(all(argument < number for argument in sides.arguments[number]))
            self.assertEqual(sides.found(side[0], sides.arguments[number]), number)
        self.assertEqual(len(set(sides.listed)), len(sides.listed))
        self.assertGreater(len(sides.listed), 200)

    def test_what_has_no_number(self):
        sides = Sides()
        number = sides.number_of(A)
        self.assertIsNone(sides.found("f", (number,)))
        self.assertEqual(len(sides.listed), 2)

    def test_filled(self):
        rng = random.Random(2)
        sides = Sides()
        for _ in range(200):
            pattern = rng.choice((draw_term, draw_atom))(rng, 3, ("x", "y"))
            terms = {name: draw_term(rng, 2, ()) for name in ("x", "y")}
            numbers = {name: sides.number_of(term) for name, term in terms.items()}
            self.assertEqual(sides.listed[sides.filled(pattern, numbers)], fill_term(pattern, terms))


class Parts(Case):
    def test_parts_and_holders(self):
        rng = random.Random(3)
        sides = Sides()
        drawn = draw_sides(rng, 60)
        numbers = [sides.number_of(side) for side in drawn]
        for number in numbers:
            found = sides.parts_of([number])
            self.assertEqual(sorted(sides.listed[part] for part in found), sorted(parts_of(sides.listed[number])))
            self.assertEqual(len(found), len(set(found)))
        two = sides.parts_of(numbers[:2])
        self.assertEqual(set(two), set(sides.parts_of(numbers[:1])) | set(sides.parts_of(numbers[1:2])))
        self.assertEqual(len(two), len(set(two)))
        for number in range(len(sides.listed)):
            holders = [other for other in range(len(sides.listed)) if number in sides.parts_of([other])]
            self.assertEqual(sorted(sides.holders_of(number)), holders)

    def test_first_place(self):
        rng = random.Random(4)
        sides = Sides()
        numbers = [sides.number_of(side) for side in draw_sides(rng, 80)]
        for _ in range(2000):
            part, whole = rng.randrange(len(sides.listed)), rng.choice(numbers)
            side = sides.listed[whole]
            places = [place for place in places_of(side) if part_at(side, place) == sides.listed[part]]
            self.assertEqual(sides.first_place(part, whole), places[0] if places else None)

    def test_replaced(self):
        rng = random.Random(5)
        sides = Sides()
        for _ in range(300):
            side, term = rng.choice((draw_term, draw_atom))(rng, 3, ()), draw_term(rng, 1, ())
            place = rng.choice([place for place in places_of(side) if place] or [()])
            number = sides.replaced(sides.number_of(side), place, sides.number_of(term))
            self.assertEqual(sides.listed[number], replace_at(side, place, term))

    def test_first_difference(self):
        sides = Sides()
        one, other = [sides.number_of(("h", A, term, B)) for term in (A, B)]
        self.assertEqual(sides.first_difference(one, other), (sides.number_of(A), sides.number_of(B)))


class Texts(Case):
    def test_drawn(self):
        rng = random.Random(6)
        sides = Sides()
        numbers = [sides.number_of(side) for side in draw_sides(rng, 80) if side != TOP]
        for _ in range(3000):
            one, other = rng.choice(numbers), rng.choice(numbers)
            texts = [term_text(sides.listed[number]) for number in (one, other)]
            self.assertEqual(sides.is_text_less(one, other), texts[0] < texts[1], texts)

    def test_names_that_begin_alike(self):
        sides = Sides()
        terms = [("f", A), ("f1", A), ("f", ("a1",)), ("fa",), ("F", A), ("g", A, ("a1",)), ("g", ("a1",), A),
                 ("g", A, A), ("a1",), A]
        for one in terms:
            for other in terms:
                less = sides.is_text_less(sides.number_of(one), sides.number_of(other))
                self.assertEqual(less, term_text(one) < term_text(other), (one, other))


class DeepSides(Case):
    """Sides that are nested deeper than calls can be."""

    def test_deep_sides(self):
        sides = Sides()
        one, other = sides.number_of(("P", times(DEEP))), sides.number_of(("P", times(DEEP, B)))
        self.assertEqual(len(sides.listed), 2 * DEEP + 5)
        self.assertIs(sides.is_text_less(one, other), True)
        self.assertEqual(sides.first_place(sides.number_of(A), one), (0,) * (DEEP + 1))
        self.assertIsNone(sides.first_place(sides.number_of(B), one))
        self.assertEqual(sides.replaced(one, (0,) * (DEEP + 1), sides.number_of(B)), other)
        self.assertEqual(len(sides.parts_of([one])), DEEP + 2)
        self.assertEqual(len(sides.holders_of(sides.number_of(A))), DEEP + 2)

    def test_sides_with_many_equal_parts(self):
        # The term has two to the power of 200 places.
        sides = Sides()
        number = sides.number_of(A)
        for _ in range(200):
            number = sides.applied("g", (number, number))
        self.assertEqual(len(sides.parts_of([number])), 201)
        self.assertIsNone(sides.first_place(sides.number_of(B), number))
        self.assertEqual(sides.first_place(sides.number_of(A), number), (0,) * 200)
