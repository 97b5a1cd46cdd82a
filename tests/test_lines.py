import random

from tests.drawing import SIGNATURE, Case, clause, dense_clause, draw_literal, draw_term, state
from worldorpaper.clauses import make_clause, make_literal
from worldorpaper.errors import BadStep
from worldorpaper.lines import cut_lines, first_wrong, given_used, judge_lines
from worldorpaper.steps import drop_step, either_step, factor_step, fill_step, replace_step
from worldorpaper.terms import TOP
from worldorpaper.worlds import World
from worldorpaper.truth import clauses_true

A, B = ("a",), ("b",)
FA, FB = ("f", A), ("f", B)


PX, NOT_PFA = clause((True, ("P", "x"), TOP)), clause((False, ("P", FA), TOP))
GIVEN = [PX, NOT_PFA]
# A paper with the reasons given, fill, replace and drop that ends with the empty clause.
SHORT = [
    (PX, ("given", 0)),
    (clause((True, ("P", FA), TOP)), ("fill", 0, (("x", FA),))),
    (NOT_PFA, ("given", 1)),
    (((False, TOP, TOP),), ("replace", 1, 0, 0, 2, 0, (0,))),
    ((), ("drop", 3)),
]
# A paper with every reason. The rows 3 and 4 are not needed.
CHOICE = clause((True, A, B), (True, A, FA))
LONG_GIVEN = (CHOICE, clause((False, A, FA)), clause((True, B, FA)))
LONG = [
    (CHOICE, ("given", 0)),
    (clause((True, A, FA), (False, B, FA)), ("factor", 0, 0, 0, 1, 0)),
    (clause((False, A, FA)), ("given", 1)),
    (clause((True, ("P", "x"), TOP), (False, ("P", "x"), TOP)), ("either", (False, TOP, ("P", "x")))),
    (clause((True, ("P", A), TOP), (False, ("P", A), TOP)), ("fill", 3, (("x", A), ("y", "z")))),
    (clause((False, B, FA), (False, FA, FA)), ("replace", 1, 0, 0, 2, 0, (0,))),
    (clause((False, B, FA)), ("drop", 5)),
    (clause((True, B, FA)), ("given", 2)),
    (clause((False, FA, FA)), ("replace", 7, 0, 0, 6, 0, (0,))),
    ((), ("drop", 8)),
]


def with_row(rows, index, clause_there, reason):
    return rows[:index] + [(clause_there, reason)] + rows[index + 1:]


class Lines(Case):
    def right(self, given, rows):
        self.gives(None, first_wrong, SIGNATURE, given, rows)

    def wrong_at(self, index, given, rows):
        self.gives(index, first_wrong, SIGNATURE, given, rows)
        self.gives(False, judge_lines, SIGNATURE, given, rows)


class RightPapers(Lines):
    """Points 14 and 15."""

    def test_papers_of_every_reason(self):
        for given, rows in [(GIVEN, SHORT), (LONG_GIVEN, LONG)]:
            for kind in (list, tuple):
                self.right(kind(given), kind(rows))
                self.gives(True, judge_lines, SIGNATURE, kind(given), kind(rows))
            for end in range(len(rows)):
                self.right(given, rows[:end])
                self.gives(False, judge_lines, SIGNATURE, given, rows[:end])

    def test_no_rows(self):
        self.right([], [])
        self.right(GIVEN, ())
        self.gives(False, judge_lines, SIGNATURE, [], [])
        self.gives(False, judge_lines, SIGNATURE, [()], ())

    def test_last_clause(self):
        self.gives(True, judge_lines, SIGNATURE, [()], [((), ("given", 0))])
        self.gives(False, judge_lines, SIGNATURE, [(), PX], [((), ("given", 0)), (PX, ("given", 1))])
        self.gives(True, judge_lines, SIGNATURE, [(), PX], [(PX, ("given", 1)), ((), ("given", 0))])

    def test_every_part_of_a_factor_counts(self):
        start = clause((True, A, B), (True, FA, B), (True, ("P", A), TOP))
        self.assertEqual(start[1:], ((True, A, B), (True, B, FA)))
        first = clause((True, FA, B), (True, ("P", A), TOP), (False, A, FA))
        self.right([start], [(start, ("given", 0)), (first, ("factor", 0, 1, 1, 2, 0))])
        second = clause((True, A, B), (True, ("P", A), TOP), (False, A, FA))
        self.right([start], [(start, ("given", 0)), (second, ("factor", 0, 2, 0, 1, 1))])
        self.wrong_at(1, [start], [(start, ("given", 0)), (second, ("factor", 0, 1, 1, 2, 0))])
        self.wrong_at(1, [start], [(start, ("given", 0)), (first, ("factor", 0, 1, 0, 2, 0))])
        self.wrong_at(1, [start], [(start, ("given", 0)), (first, ("factor", 0, 1, 1, 2, 1))])

    def test_every_part_of_a_replace_counts(self):
        first = clause((True, A, B), (True, ("P", A), TOP), (False, FA, FB))
        second = clause((True, ("R", FB, FB), TOP), (False, FA, FB))
        made = clause((True, ("P", A), TOP), (False, FA, FB), (True, ("R", FB, FA), TOP))
        start = [(first, ("given", 0)), (second, ("given", 1))]
        self.assertEqual((first[1], second[0][1][0]), ((True, A, B), "R"))
        self.right([first, second], start + [(made, ("replace", 0, 1, 1, 1, 0, (0, 1, 0)))])
        for tail in [(0, 0, 1, 1, 0, (0, 1, 0)), (0, 2, 1, 1, 0, (0, 1, 0)), (0, 1, 0, 1, 0, (0, 1, 0)),
                     (0, 1, 1, 1, 1, (0, 1, 0)), (0, 1, 1, 1, 0, (0, 0, 0)), (1, 1, 1, 1, 0, (0, 1, 0)),
                     (0, 1, 1, 0, 0, (0, 1, 0)), (1, 1, 1, 0, 0, (0, 1, 0)), (1, 0, 1, 0, 0, (0, 1, 0))]:
            self.wrong_at(2, [first, second], start + [(made, ("replace",) + tail)])

    def test_same_row_twice(self):
        self.right(GIVEN, [SHORT[0], SHORT[0], (PX, ("drop", 0)), (PX, ("drop", 2))])

    def test_one_row_used_twice_in_a_replace(self):
        both = clause((True, A, B))
        self.right([both], [(both, ("given", 0)), (clause((True, B, B)), ("replace", 0, 0, 0, 0, 0, (0,)))])


class DeepPapers(Lines):
    """Papers with terms like those that the road of fillings makes."""

    def test_deep_terms(self):
        term = A
        for _ in range(3000):
            term = ("f", term)
        pt, not_pfx = clause((True, ("P", term), TOP)), clause((False, ("P", ("f", "x")), TOP))
        deeper = clause((False, ("P", ("f", term)), TOP))
        rows = [
            (PX, ("given", 0)),
            (pt, ("fill", 0, (("x", term),))),
            (clause((True, ("P", ("f", term)), TOP)), ("fill", 0, (("x", ("f", term)),))),
            (not_pfx, ("given", 1)),
            (deeper, ("fill", 3, (("x", term),))),
            (((False, TOP, TOP),), ("replace", 2, 0, 0, 4, 0, (0,))),
            ((), ("drop", 5)),
        ]
        self.assertIs(judge_lines(SIGNATURE, [PX, not_pfx], rows), True)
        self.assertEqual(first_wrong(SIGNATURE, [PX, not_pfx], [*rows[:4], (pt, rows[4][1]), *rows[5:]]), 4)
        # The part at the very end is replaced.
        given = [clause((True, A, B)), pt]
        place = (0, 0) + (0,) * 3000
        wrong = [(given[0], ("given", 0)), (pt, ("given", 1)), (pt, ("replace", 0, 0, 0, 1, 0, place + (0,)))]
        self.assertEqual(first_wrong(SIGNATURE, given, wrong), 2)


class WrongRows(Lines):
    """Point 15: what makes a row wrong."""

    def test_clause_not_exactly_that(self):
        for given, rows in [(GIVEN, SHORT), (LONG_GIVEN, LONG)]:
            for index, (made, reason) in enumerate(rows):
                for other in [made + ((True, B, B),), made[1:], made[::-1], made + made[:1], list(made), None, "x"]:
                    if other != made:
                        self.wrong_at(index, given, with_row(rows, index, other, reason))

    def test_first_of_several(self):
        rows = with_row(with_row(SHORT, 3, (), ("drop", 9)), 2, (), ("given", 7))
        self.wrong_at(2, GIVEN, rows)
        self.wrong_at(0, [PX], with_row(rows, 0, (), ("given", 0)))

    def test_given(self):
        for k in (-1, -2, 2, 5):
            self.wrong_at(0, GIVEN, [(PX, ("given", k))])
            self.wrong_at(0, GIVEN, [(NOT_PFA, ("given", k))])
        self.wrong_at(0, GIVEN, [(PX, ("given", 1))])
        self.wrong_at(0, [], [(PX, ("given", 0))])
        self.wrong_at(0, [], [((), ("given", -1))])
        unsorted = clause((True, A, B), (True, ("P", A), TOP))[::-1]
        self.wrong_at(0, [unsorted], [(make_clause(unsorted), ("given", 0))])
        self.right([unsorted], [(unsorted, ("given", 0))])

    def test_rows_that_are_not_before(self):
        for index in (1, 2, 3, -1, -2, 100):
            self.wrong_at(1, GIVEN, [SHORT[0], (PX, ("drop", index)), SHORT[0], SHORT[0]])
            self.wrong_at(1, GIVEN, [SHORT[0], (PX, ("fill", index, ())), SHORT[0], SHORT[0]])
            self.wrong_at(1, LONG_GIVEN, with_row(LONG[:3], 1, LONG[1][0], ("factor", index, 0, 0, 1, 0)))
        for index in (3, 4, 100, -1, -2, -3):
            self.wrong_at(3, GIVEN, with_row(SHORT, 3, SHORT[3][0], ("replace", index, 0, 0, 2, 0, (0,))))
            self.wrong_at(3, GIVEN, with_row(SHORT, 3, SHORT[3][0], ("replace", 1, 0, 0, index, 0, (0,))))
        both = clause((True, A, B))
        self.wrong_at(0, [both], [(clause((True, B, B)), ("replace", 0, 0, 0, 0, 0, (0,))), (both, ("given", 0))])

    def test_steps_that_cannot_be_taken(self):
        self.wrong_at(1, GIVEN, with_row(SHORT, 1, SHORT[1][0], ("fill", 0, (("x", FA), ("x", FA)))))
        self.wrong_at(1, GIVEN, with_row(SHORT, 1, SHORT[1][0], ("fill", 0, (("x", FA), (A, B)))))
        self.wrong_at(1, GIVEN, with_row(SHORT, 1, SHORT[1][0], ("fill", 0, (("x", FA), (3, B)))))
        for tail in [(-1, 0, 2, 0, (0,)), (1, 0, 2, 0, (0,)), (0, 1, 2, 0, (0,)), (0, 2, 2, 0, (0,)),
                     (0, 0, 2, 1, (0,)), (0, 0, 2, -1, (0,)), (0, 0, 2, 0, ()), (0, 0, 2, 0, (1,)), (0, 0, 2, 0, (0, 0)),
                     (0, 0, 2, 0, (-2,)), (0, -1, 2, 0, (0,))]:
            self.wrong_at(3, GIVEN, with_row(SHORT, 3, SHORT[3][0], ("replace", 1) + tail))
        for tail in [(0, 0, 0, 0), (0, 1, 1, 0), (0, 0, 1, 1), (-2, 0, 1, 0), (0, 0, -1, 0), (0, 0, 2, 0), (0, 2, 1, 0),
                     (0, 0, 1, -2)]:
            self.wrong_at(1, LONG_GIVEN, with_row(LONG, 1, LONG[1][0], ("factor", 0) + tail))

    def test_other_steps_than_the_clause(self):
        self.wrong_at(4, GIVEN, with_row(SHORT, 4, (), ("drop", 2)))
        self.wrong_at(1, GIVEN, with_row(SHORT, 1, SHORT[1][0], ("fill", 0, (("x", A),))))
        self.wrong_at(1, GIVEN, with_row(SHORT, 1, SHORT[1][0], ("fill", 0, (("y", FA),))))

    def test_terms_of_a_fill_fit(self):
        misfits = [("c",), ("f",), ("f", A, A), ("g", A), ("k", A), "a", "f", "X", "all", "x" * 13, "", ("f", "b"),
                   ("f", ("c",)), TOP, ("P", A), ("f", TOP), ("f", ("P", A)), ("P",), (), 5, None, ("f", ()), ((), A)]
        for term in misfits:
            for name in ("x", "y"):
                # The second clause is what the fill would make if only the form of the terms counted.
                try:
                    made = fill_step(PX, ((name, term),))
                except BadStep:
                    made = PX
                self.wrong_at(1, GIVEN, [SHORT[0], (made, ("fill", 0, ((name, term),)))])
        for term in ["x", "y", "newone", ("g", "u", ("f", "v")), A]:
            made = fill_step(PX, (("x", term),))
            self.right(GIVEN, [SHORT[0], (made, ("fill", 0, (("x", term),)))])

    def test_sides_of_an_either_fit(self):
        def row(sign, left, right):
            return (make_clause([make_literal(sign, left, right), make_literal(not sign, left, right)]),
                    ("either", (sign, left, right)))

        right = [(A, B), (B, A), ("x", FA), ("x", "x"), (("Q",), TOP), (TOP, ("R", "x", FA)), (("g", A, "y"), "x")]
        for left, other in right:
            self.right([], [row(True, left, other)])
            self.right([], [row(False, left, other)])
        misfits = [(("c",), A), (("f",), A), (("f", A, A), "x"), ("a", A), ("X", A), ("all", "x"), (("f", "b"), A),
                   (("Z", A), TOP), (("P",), TOP), (("P", A, A), TOP), (("Q", A), TOP), (("P", ("c",)), TOP),
                   (("P", "a"), TOP), (("P", ("f",)), TOP), (("P", "X"), TOP), (("P", "x"), A), (("P", A), ("P", B)),
                   (("P", TOP), TOP), (("f", TOP), A), (TOP, A)]
        for left, other in misfits:
            for sign in (True, False):
                self.wrong_at(0, [], [row(sign, left, other)])
                self.wrong_at(0, [], [row(sign, other, left)])
        self.wrong_at(0, [], [(((False, TOP, TOP), (True, TOP, TOP)), ("either", (True, TOP, TOP)))])
        self.wrong_at(0, [()], [((), ("guess", 0))])
        for junk in [(), 5, None, ("",), (3, A), ((), A)]:
            self.wrong_at(0, [], [((), ("either", (True, junk, A)))])
            self.wrong_at(0, [], [((), ("either", (True, TOP, junk)))])

    def test_either_makes_a_sorted_clause(self):
        made = either_step((True, A, B))
        self.wrong_at(0, [], [(made[::-1], ("either", (True, A, B)))])
        self.wrong_at(0, [], [(made[:1], ("either", (True, A, B)))])

    def test_wrong_everywhere(self):
        junk = [("given", 99), ("fill", 99, ()), ("drop", -1), ("factor", 0, 9, 9, 9, 9),
                ("replace", 0, 9, 9, 0, 9, (9,)), ("either", (True, TOP, TOP))]
        for given, rows in [(GIVEN, SHORT), (LONG_GIVEN, LONG)]:
            for index in range(len(rows)):
                for reason in junk:
                    self.wrong_at(index, given, with_row(rows, index, rows[index][0], reason))


class WhatPapersShow(Lines):
    """Point 15: an accepted paper shows that no world makes the given clauses true."""

    def test_no_small_world(self):
        for given, rows in [(GIVEN, SHORT), (LONG_GIVEN, LONG)]:
            self.gives(True, judge_lines, SIGNATURE, given, rows)
            for size in (1, 2):
                for number in range(2 ** 4):
                    bits = [bool(number >> at & 1) for at in range(4)]
                    world = World.blank(SIGNATURE, size).with_table("P", bits[:size])
                    if size == 2:
                        world = world.with_table("f", [int(bit) for bit in bits[2:]]).with_table("b", [int(bits[1])])
                    self.assertFalse(clauses_true(world, given))


def drawn_paper(rng):
    """A right paper of many rows over drawn clauses."""
    given = [dense_clause(rng, 4) for _ in range(4)]
    rows = [(one, ("given", k)) for k, one in enumerate(given)]
    while len(rows) < 25:
        i, j = rng.randrange(len(rows)), rng.randrange(len(rows))
        kind = rng.choice(("given", "fill", "drop", "factor", "replace", "replace", "either"))
        try:
            if kind == "given":
                k = rng.randrange(len(given))
                rows.append((given[k], ("given", k)))
            elif kind == "fill":
                pairs = tuple((name, draw_term(rng, 1)) for name in rng.sample(["x", "y", "z"], 2))
                rows.append((fill_step(rows[i][0], pairs), ("fill", i, pairs)))
            elif kind == "drop":
                rows.append((drop_step(rows[i][0]), ("drop", i)))
            elif kind == "either":
                literal = draw_literal(rng, 1)
                rows.append((either_step(literal), ("either", literal)))
            elif kind == "factor":
                args = (rng.randrange(3), rng.randrange(2), rng.randrange(3), rng.randrange(2))
                # The given clauses have more literals than the rows.
                i = rng.randrange(len(given))
                rows.append((factor_step(rows[i][0], *args), ("factor", i) + args))
            else:
                args = (rng.randrange(3), rng.randrange(2), j, rng.randrange(3), rng.choice([(0,), (1,), (0, 0), (1, 0)]))
                made = replace_step(rows[i][0], args[0], args[1], rows[j][0], args[3], args[4])
                rows.append((made, ("replace", i) + args))
        except BadStep:
            pass
    return given, rows


class DrawnPapers(Lines):
    def test_right_and_then_wrong(self):
        rng = random.Random(15)
        for _ in range(30):
            given, rows = drawn_paper(rng)
            self.right(given, rows)
            index = rng.randrange(len(rows))
            other = rows[index][0] + ((False, ("S", A, A, A), TOP),)
            self.wrong_at(index, given, with_row(rows, index, other, rows[index][1]))
            cut = self.call(cut_lines, rows)
            self.right(given, cut)
            self.assertEqual(cut[-1][0], rows[-1][0])
            self.assertLessEqual(len(cut), len(rows))
            self.gives(cut, cut_lines, cut)


class Cutting(Case):
    """Point 16."""

    def test_no_rows(self):
        self.gives([], cut_lines, [])
        self.gives([], cut_lines, ())
        self.gives([], given_used, [])

    def test_all_needed(self):
        self.gives(SHORT, cut_lines, SHORT)
        self.gives(SHORT, cut_lines, tuple(SHORT))

    def test_rows_left_out(self):
        expected = [
            LONG[0], LONG[1], LONG[2],
            (LONG[5][0], ("replace", 1, 0, 0, 2, 0, (0,))),
            (LONG[6][0], ("drop", 3)),
            LONG[7],
            (LONG[8][0], ("replace", 5, 0, 0, 4, 0, (0,))),
            ((), ("drop", 6)),
        ]
        self.gives(expected, cut_lines, LONG)
        self.gives(True, judge_lines, SIGNATURE, LONG_GIVEN, expected)

    def test_single_last_row(self):
        self.gives([(PX, ("given", 4))], cut_lines, [SHORT[1], SHORT[1], (PX, ("given", 4))])
        self.gives([LONG[3]], cut_lines, LONG[:4])
        self.gives([LONG[3], (LONG[4][0], ("fill", 0, LONG[4][1][2]))], cut_lines, LONG[:5])

    def test_only_indexes_of_rows_are_renumbered(self):
        rows = [
            (PX, ("given", 0)),
            (PX, ("given", 1)),
            (PX, ("given", 2)),
            (PX, ("factor", 2, 2, 2, 2, 2)),
            (PX, ("drop", 2)),
            (PX, ("fill", 4, ((2, 4), ("x", 4)))),
            (PX, ("replace", 3, 4, 3, 5, 4, (2, 3, 4, 5))),
        ]
        expected = [
            (PX, ("given", 2)),
            (PX, ("factor", 0, 2, 2, 2, 2)),
            (PX, ("drop", 0)),
            (PX, ("fill", 2, ((2, 4), ("x", 4)))),
            (PX, ("replace", 1, 4, 3, 3, 4, (2, 3, 4, 5))),
        ]
        self.gives(expected, cut_lines, rows)

    def test_given_used(self):
        self.gives([0, 1], given_used, SHORT)
        self.gives([0, 1, 2], given_used, tuple(LONG))
        rows = [(PX, ("given", 7)), (PX, ("drop", 0)), (PX, ("given", 10)), (PX, ("given", 2)), (PX, ("given", 7))]
        self.gives([2, 7, 10], given_used, rows)
        self.gives([], given_used, [(PX, ("either", (True, A, B))), (PX, ("drop", 0))])

    def test_results_are_new(self):
        rows = list(SHORT)
        cut_lines(rows).clear()
        self.assertEqual(state(rows), state(SHORT))
