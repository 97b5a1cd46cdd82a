import random

from tests.drawing import GROUND, Case, clause, close_clauses, draw_order, ground_clauses, no, state, yes
from worldorpaper.errors import BadStep
from worldorpaper.groundworlds import world_of
from worldorpaper.hearts import Heart, refutation, saturate
from worldorpaper.inferring import covered, factors, is_saturated, join, needless, simpler, simplify
from worldorpaper.lines import cut_lines, first_wrong, judge_lines
from worldorpaper.orders import Order, plain_order
from worldorpaper.steps import factor_step, replace_step
from worldorpaper.terms import TOP
from worldorpaper.truth import clauses_true

A, B, C, FA = ("a",), ("b",), ("c",), ("f", ("a",))
PLAIN = plain_order(GROUND)
PICKS = [(), (0,), (1,), (2, 0, 5), (7, 3)]


class PlainHeart:
    """Points 78 to 81 as they stand."""

    def __init__(self, order, picks):
        self.order, self.picks = order, picks
        self.given, self.rows, self.waiting, self.kept = [], [], [], []
        self.steps, self.refuted = 0, None

    def clauses(self):
        return [self.rows[row][0] for row in self.kept]

    def add(self, one):
        self.given.append(one)
        self.rows.append((one, ("given", len(self.given) - 1)))
        self.waiting.append(len(self.rows) - 1)

    def ended(self):
        return self.refuted is not None or not self.waiting

    def step(self):
        if self.ended():
            return
        at = self.picks[self.steps % len(self.picks)] % len(self.waiting) if self.picks else 0
        row = self.waiting[at]
        self.waiting = self.waiting[:at] + self.waiting[at + 1:]
        self.steps += 1
        while True:
            one = self.rows[row][0]
            step = simpler(self.order, self.clauses(), one)
            if needless(self.clauses(), one) or step is None:
                break
            reason = ("drop", row) if step == ("drop",) else ("replace", self.kept[step[1]], 0, step[2], row) + step[3:]
            self.rows.append((simplify(self.clauses(), one, step), reason))
            row = len(self.rows) - 1
        if needless(self.clauses(), one):
            return
        if one == ():
            self.refuted = row
            return
        for found in factors(self.order, one):
            self.infer(factor_step(one, *found), ("factor", row) + found)
        for other in self.kept:
            self.join(other, row)
            self.join(row, other)
        self.kept.append(row)

    def join(self, first, second):
        found = join(self.order, self.rows[first][0], self.rows[second][0])
        if found is not None:
            result = replace_step(self.rows[first][0], *found[:2], self.rows[second][0], *found[2:])
            self.infer(result, ("replace", first) + found[:2] + (second,) + found[2:])

    def infer(self, one, reason):
        if one not in [row[0] for row in self.rows]:
            self.rows.append((one, reason))
            self.waiting.append(len(self.rows) - 1)


def parts(heart):
    return state([heart.given, heart.rows, heart.waiting, heart.kept, heart.steps, heart.refuted])


def heaviest(order, clauses):
    return max((order.weight(side) for one in clauses for literal in one for side in literal[1:]), default=0)


class Adding(Case):
    """Points 78 and 79."""

    def test_a_new_heart(self):
        for picks in [(), [], (1, 2), [0]]:
            heart = self.call(Heart, GROUND, PLAIN, picks)
            self.assertEqual(parts(heart), state([[], [], [], [], 0, None]))
            self.assertEqual((heart.signature, heart.order), (GROUND, PLAIN))
            self.assertIs(heart.has_ended(), True)
            self.assertEqual(heart.kept_clauses, [])
        heart = Heart(GROUND, PLAIN)
        self.assertIsNone(heart.step())
        self.assertEqual(parts(heart), state([[], [], [], [], 0, None]))

    def test_add(self):
        heart = Heart(GROUND, PLAIN)
        one, two = clause(yes(A, B)), clause(no(A, B), yes(("Q",)))
        self.assertIsNone(heart.add(one))
        self.assertIsNone(heart.add(two))
        self.assertIsNone(heart.add(one))
        heart.add(())
        rows = [(one, ("given", 0)), (two, ("given", 1)), (one, ("given", 2)), ((), ("given", 3))]
        self.assertEqual(parts(heart), state([[one, two, one, ()], rows, [0, 1, 2, 3], [], 0, None]))
        self.assertIs(heart.has_ended(), False)

    def test_unknowns(self):
        heart = Heart(GROUND, PLAIN)
        heart.add(clause(yes(A, B)))
        for step in (False, True):
            if step:
                heart.step()
            before = state(heart)
            for one in [clause(yes("x", A)), clause(yes(("P", "x"))), clause(yes(A, B), no(A, ("f", ("f", "x"))))]:
                with self.assertRaises(BadStep):
                    heart.add(one)
                self.assertEqual(state(heart), before)

    def test_add_after_the_end(self):
        heart = saturate(GROUND, PLAIN, [clause(yes(A, B))])
        self.assertIs(heart.has_ended(), True)
        heart.add(clause(yes(("P", B))))
        self.assertEqual((heart.waiting, heart.has_ended()), ([1], False))
        heart.step()
        self.assertEqual(heart.rows[2], (clause(yes(("P", A))), ("replace", 0, 0, 1, 1, 0, (0, 0))))
        self.assertEqual((heart.kept, heart.has_ended()), ([0, 2], True))
        # A row has this clause already.
        heart.add(clause(yes(A, B)))
        self.assertEqual((heart.rows[3:], heart.waiting), ([(clause(yes(A, B)), ("given", 2))], [3]))
        heart.step()
        self.assertEqual((heart.kept, heart.waiting, heart.steps, len(heart.rows)), ([0, 2], [], 3, 4))

    def test_add_after_a_refutation(self):
        heart = saturate(GROUND, PLAIN, [clause(yes(A, B)), ()])
        self.assertEqual((heart.refuted, heart.has_ended(), heart.kept), (1, True, [0]))
        heart.add(clause(no(A, B)))
        self.assertEqual((heart.waiting, heart.has_ended()), ([2], True))
        before = parts(heart)
        heart.step()
        self.assertEqual(parts(heart), before)
        self.assertEqual(refutation(heart), [((), ("given", 1))])

    def test_picks_are_not_kept(self):
        picks = [1]
        heart = Heart(GROUND, PLAIN, picks)
        for one in (clause(yes(A, B)), clause(yes(("Q",)))):
            heart.add(one)
        picks[0] = 0
        heart.step()
        self.assertEqual(heart.kept, [1])


class Steps(Case):
    """Points 78, 80 and 81."""

    def test_written_out(self):
        heart = Heart(GROUND, PLAIN)
        for one in [clause(yes(A, B)), clause(no(("P", A))), clause(yes(("P", B)), no(C, C)), clause(yes(A, B), yes(B, C))]:
            heart.add(one)
        heart.step()
        self.assertEqual((heart.kept, heart.waiting, heart.steps), ([0], [1, 2, 3], 1))
        heart.step()
        self.assertEqual((heart.kept, heart.waiting, heart.steps), ([0, 1], [2, 3], 2))
        heart.step()
        self.assertEqual(heart.rows[4:], [
            (clause(yes(("P", B))), ("drop", 2)),
            (clause(yes(("P", A))), ("replace", 0, 0, 1, 4, 0, (0, 0))),
            (clause(no(TOP, TOP)), ("replace", 5, 0, 0, 1, 0, (0,))),
        ])
        self.assertEqual((heart.kept, heart.waiting, heart.kept_clauses[-1]), ([0, 1, 5], [3, 6], clause(yes(("P", A)))))
        heart.step()
        self.assertEqual((heart.kept, heart.waiting, len(heart.rows)), ([0, 1, 5], [6], 7))
        heart.step()
        self.assertEqual(heart.rows[7:], [((), ("drop", 6))])
        self.assertEqual((heart.kept, heart.waiting, heart.steps, heart.refuted), ([0, 1, 5], [], 5, 7))
        self.assertEqual(refutation(heart), cut_lines(heart.rows))
        self.assertIs(judge_lines(GROUND, heart.given, refutation(heart)), True)
        heart.step()
        self.assertEqual((heart.steps, len(heart.rows)), (5, 8))

    def test_factors_come_before_joins(self):
        heart = Heart(GROUND, PLAIN)
        one, two = clause(no(B, C)), clause(yes(A, C), yes(B, C))
        heart.add(one)
        heart.add(two)
        heart.step()
        heart.step()
        self.assertEqual(heart.rows[2:], [
            (clause(no(A, B), yes(A, C)), ("factor", 1, two.index(yes(B, C)), 1, two.index(yes(A, C)), 1)),
            (clause(yes(A, C), no(B, B)), ("replace", 1, two.index(yes(B, C)), 1, 0, 0, (1,))),
        ])
        self.assertEqual((heart.kept, heart.waiting), ([0, 1], [2, 3]))

    def test_drawn(self):
        rng = random.Random(1)
        seen = {"given": 0, "drop": 0, "replace": 0, "factor": 0, "left": 0}
        for number in range(200):
            order = draw_order(rng, GROUND)
            picks = rng.choice(PICKS)
            heart, plain = Heart(GROUND, order, picks), PlainHeart(order, picks)
            steps = 0
            for one in (close_clauses if number % 2 else ground_clauses)(rng, rng.randint(1, 8), 3):
                heart.add(one)
                plain.add(one)
                while rng.random() < 0.3:
                    heart.step()
                    plain.step()
            while not plain.ended() and steps < 60:
                self.assertIs(heart.has_ended(), False)
                heart.step()
                plain.step()
                steps += 1
                self.assertEqual(parts(heart), parts(plain))
            self.assertIs(heart.has_ended(), plain.ended())
            self.assertEqual(state(heart.kept_clauses), state(plain.clauses()))
            for _, reason in heart.rows:
                seen[reason[0]] += 1
            seen["left"] += len(heart.rows) - len(heart.kept)
        self.assertTrue(min(seen.values()) > 20, seen)

    def test_kept_clauses_is_new(self):
        heart = saturate(GROUND, PLAIN, [clause(yes(A, B))])
        heart.kept_clauses.append(())
        self.assertEqual(heart.kept_clauses, [clause(yes(A, B))])


class Ends(Case):
    """Point 82."""

    def test_verdicts(self):
        rng = random.Random(2)
        answers = {True: 0, False: 0}
        for _ in range(200):
            clauses = rng.choice([close_clauses, ground_clauses])(rng, rng.randint(3, 12), 3)
            verdicts = []
            for picks in rng.sample(PICKS, 3):
                order = draw_order(rng, GROUND)
                heart = self.call(saturate, GROUND, order, clauses, picks=picks)
                self.assertIs(heart.has_ended(), True)
                self.assertEqual(heart.given, clauses)
                self.assertIsNone(first_wrong(GROUND, clauses, heart.rows))
                made = [one for one, _ in heart.rows]
                self.assertLessEqual(heaviest(order, made), heaviest(order, clauses))
                paper = self.call(refutation, heart)
                if heart.refuted is None:
                    self.assertIsNone(paper)
                    self.assertTrue(is_saturated(order, heart.kept_clauses))
                    self.assertTrue(all(covered(order, heart.kept_clauses, one) for one in clauses))
                    world, _ = world_of(GROUND, order, heart.kept_clauses)
                    self.assertTrue(clauses_true(world, clauses))
                else:
                    self.assertEqual(heart.rows[heart.refuted][0], ())
                    self.assertEqual(paper, cut_lines(heart.rows[:heart.refuted + 1]))
                    self.assertTrue(judge_lines(GROUND, clauses, paper))
                verdicts.append(heart.refuted is not None)
            self.assertEqual(len(set(verdicts)), 1)
            answers[verdicts[0]] += 1
        self.assertTrue(min(answers.values()) > 40, answers)

    def test_saturate_is_step_after_step(self):
        rng = random.Random(3)
        for _ in range(30):
            clauses = tuple(ground_clauses(rng, rng.randint(0, 7), 3))
            picks = rng.choice(PICKS)
            heart = Heart(GROUND, PLAIN, picks)
            for one in clauses:
                heart.add(one)
            while not heart.has_ended():
                heart.step()
            self.assertEqual(parts(self.call(saturate, GROUND, PLAIN, clauses, picks=list(picks))), parts(heart))
            if not picks:
                self.assertEqual(parts(saturate(GROUND, PLAIN, clauses)), parts(heart))

    def test_the_empty_clause(self):
        heart = saturate(GROUND, PLAIN, [()])
        self.assertEqual((heart.refuted, heart.kept, heart.steps), (0, [], 1))
        self.assertEqual(refutation(heart), [((), ("given", 0))])
        self.assertIsNone(refutation(saturate(GROUND, PLAIN, [])))

    def test_a_long_chain(self):
        # f(f(f(a))) = a and f(f(f(f(f(a))))) = a make f(a) = a.
        def times(count):
            term = A
            for _ in range(count):
                term = ("f", term)
            return term

        clauses = [clause(yes(times(3), A)), clause(yes(times(5), A)), clause(no(FA, A))]
        for picks in PICKS:
            for ranking in (PLAIN.ranking, PLAIN.ranking[::-1]):
                heart = saturate(GROUND, Order.ranked(GROUND, ranking), clauses, picks=picks)
                self.assertTrue(judge_lines(GROUND, clauses, refutation(heart)))
                heart = saturate(GROUND, Order.ranked(GROUND, ranking), clauses[:2], picks=picks)
                self.assertIn(clause(yes(FA, A)), heart.kept_clauses)

    def test_pigeons(self):
        # Four names for things that are pairwise different and among three.
        names = [("g", A, A), ("g", A, B), ("g", B, A), ("g", B, B)]
        clauses = [clause(*[yes(name, hole) for hole in (A, B, C)]) for name in names]
        clauses += [clause(no(one, two)) for at, one in enumerate(names) for two in names[:at]]
        heart = saturate(GROUND, PLAIN, clauses)
        self.assertTrue(judge_lines(GROUND, clauses, refutation(heart)))
        self.assertIsNone(saturate(GROUND, PLAIN, clauses[1:]).refuted)
