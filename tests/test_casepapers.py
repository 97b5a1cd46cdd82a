import random

from tests.drawing import Case
from tests.test_sorts import BOOKS, OTHER, book, draw_single, plain_cases
from worldorpaper.casepapers import case_paper, cases_before_paper, judge_cases, judge_cases_before
from worldorpaper.errors import NotOfKind
from worldorpaper.reading import read_book
from worldorpaper.sorts import case_size, small_world
from worldorpaper.truth import sentence_true


def plain_paper(one, size=None):
    """Points 128 and 129 as they stand."""
    paper = []
    for case in plain_cases(one):
        if size is None or case_size(case) < size:
            world = small_world(one, case)
            false = [index for index, sentence in enumerate(one.sentences) if not sentence_true(world, sentence)]
            if not false:
                return None
            paper.append(false[0])
    return tuple(paper)


def plain_judge(one, paper, size=None):
    cases = [case for case in plain_cases(one) if size is None or case_size(case) < size]
    return len(cases) == len(paper) and all(
        index in range(len(one.sentences)) and not sentence_true(small_world(one, case), one.sentences[index])
        for case, index in zip(cases, paper))


class Papers(Case):
    """Points 128 and 129."""

    def test_written_out(self):
        # The cases are a without P, and a with P.
        one = book("P(a)", "not P(a)")
        self.gives((0, 1), case_paper, one)
        self.gives(True, judge_cases, one, (0, 1))
        for paper in [(), (0,), (1,), (0, 0), (1, 1), (1, 0), (0, 1, 0), (0, 1, 1), (0, 2), (-2, 1), (0, -1), (-1, -1),
                      (10 ** 20, 1), (0, 1, 2)]:
            self.gives(False, judge_cases, one, paper)

    def test_the_first_false_sentence(self):
        one = book("Q", "a = a", "not P(a)", "P(a)")
        self.gives((0, 0, 3, 2), case_paper, one)
        self.gives(True, judge_cases, one, (0, 0, 3, 2))
        self.gives(True, judge_cases, one, (3, 2, 3, 2))
        self.gives(False, judge_cases, one, (1, 0, 3, 2))

    def test_a_book_with_a_world(self):
        for one in BOOKS:
            if plain_paper(one) is None:
                self.gives(None, case_paper, one)
        self.gives(None, case_paper, book())
        self.gives(False, judge_cases, book(), ())
        self.gives(False, judge_cases, book(), (0,))
        self.gives(False, judge_cases, book(), (-1,))

    def test_before_a_size(self):
        one = book("some x. some y. x != y", "all x. x = x")
        self.gives((), cases_before_paper, one, 1)
        self.gives((0,), cases_before_paper, one, 2)
        self.gives(None, cases_before_paper, one, 3)
        self.gives(None, cases_before_paper, one, 10 ** 20)
        self.gives(True, judge_cases_before, one, 1, ())
        self.gives(True, judge_cases_before, one, 2, (0,))
        for size, paper in [(1, (0,)), (2, ()), (2, (1,)), (2, (-2,)), (2, (2,)), (2, (0, 0)), (3, (0,)), (3, (0, 0)),
                            (3, (0, 1))]:
            self.gives(False, judge_cases_before, one, size, paper)

    def test_size_1(self):
        for one in BOOKS:
            self.gives((), cases_before_paper, one, 1)
            self.gives(True, judge_cases_before, one, 1, ())
            self.gives(False, judge_cases_before, one, 1, (0,))

    def test_other_books(self):
        other = read_book(OTHER)
        self.fails(NotOfKind, case_paper, other)
        self.fails(NotOfKind, judge_cases, other, ())
        self.fails(NotOfKind, cases_before_paper, other, 1)
        self.fails(NotOfKind, judge_cases_before, other, 1, ())

    def test_as_the_points_stand(self):
        rng = random.Random(12801)
        refuted = accepted = 0
        for _ in range(250):
            one = draw_single(rng, 5)
            expected = plain_paper(one)
            self.gives(expected, case_paper, one)
            if expected is not None:
                refuted += 1
                self.assertTrue(judge_cases(one, expected))
            for size in (1, 2, 3, 4):
                before = plain_paper(one, size)
                self.gives(before, cases_before_paper, one, size)
                if before is not None:
                    self.assertTrue(judge_cases_before(one, size, before))
            paper = list(expected or plain_paper(one, 2) or (0,) * len(plain_cases(one)))
            for _ in range(4):
                size = rng.choice((None, 2, 3))
                judged = plain_judge(one, paper, size)
                if size is None:
                    self.gives(judged, judge_cases, one, tuple(paper))
                else:
                    self.gives(judged, judge_cases_before, one, size, tuple(paper))
                accepted += judged
                at = rng.randrange(len(paper) + 1)
                paper[at:at + rng.randrange(2)] = [rng.randint(-1, len(one.sentences))] * rng.randrange(2)
        self.assertGreater(refuted, 30)
        self.assertGreater(accepted, 60)
