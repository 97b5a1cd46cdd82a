"""Hearts: inferring from clauses without unknowns until nothing new follows."""

from worldorpaper.clauses import is_ground
from worldorpaper.errors import BadStep
from worldorpaper.inferring import RankedClause, factor_rows, join_result, joined, needless, simpler_step, simplify
from worldorpaper.lines import cut_lines
from worldorpaper.steps import factor_step


class Heart:
    """A paper in lines that grows by inferences from the given clauses."""

    def __init__(self, signature, order, picks=()):
        self.signature = signature
        self.order = order
        self.given = []
        self.rows = []
        self.waiting = []
        self.kept = []
        self.steps = 0
        self.refuted = None
        self._picks = tuple(picks)
        self.ranked_kept = []
        self._texts = {}

    @property
    def kept_clauses(self):
        """The clauses of the kept rows."""
        return [ranked.clause for ranked in self.ranked_kept]

    def add(self, clause):
        """Takes in a clause; raises BadStep if it has unknowns."""
        if not is_ground(clause):
            raise BadStep("the clause has unknowns")
        self.given.append(clause)
        self._append_row(clause, ("given", len(self.given) - 1))
        self.waiting.append(len(self.rows) - 1)

    def has_ended(self):
        """Tells whether the heart has refuted or no row waits."""
        return self.refuted is not None or len(self.waiting) == 0

    def step(self):
        """Takes a row that waits, makes it simpler, and infers from it."""
        if self.has_ended():
            return
        row = self._take_row()
        clause = self.rows[row][0]
        while not needless(self.kept_clauses, clause):
            ranked = RankedClause(self.order, clause)
            step = simpler_step(self.ranked_kept, ranked)
            if step is None:
                self._settle(row, ranked)
                return
            clause = simplify(self.kept_clauses, clause, step)
            self._append_row(clause, self._reason(step, row))
            row = len(self.rows) - 1

    def _take_row(self):
        picked = 0
        if len(self._picks) > 0:
            picked = self._picks[self.steps % len(self._picks)] % len(self.waiting)
        self.steps += 1
        return self.waiting.pop(picked)

    def _reason(self, step, row):
        """The reason for what a step of `simpler` makes of a row."""
        if step[0] == "drop":
            return ("drop", row)
        _, index, side, target, place = step
        return ("replace", self.kept[index], 0, side, row, target, place)

    def _settle(self, row, ranked):
        """Keeps a row that cannot be made simpler, or refutes by it."""
        if len(ranked.clause) == 0:
            self.refuted = row
            return
        for step in factor_rows(ranked):
            self._infer(factor_step(ranked.clause, *step), ("factor", row) + step)
        for other_row, other in zip(self.kept, self.ranked_kept):
            self._infer_join(other_row, other, row, ranked)
            self._infer_join(row, ranked, other_row, other)
        self.kept.append(row)
        self.ranked_kept.append(ranked)

    def _infer_join(self, first_row, first, second_row, second):
        step = joined(first, second)
        if step is not None:
            index, side, target, place = step
            reason = ("replace", first_row, index, side, second_row, target, place)
            self._infer(join_result(first, second, step), reason)

    def _infer(self, clause, reason):
        if repr(clause) not in self._texts:
            self._append_row(clause, reason)
            self.waiting.append(len(self.rows) - 1)

    def _append_row(self, clause, reason):
        self.rows.append((clause, reason))
        # Texts can be keys; clauses may be nested deeper than keys are.
        self._texts[repr(clause)] = True


def saturate(signature, order, clauses, *, picks=()):
    """A heart that has taken in the clauses and ended."""
    heart = Heart(signature, order, picks)
    for clause in clauses:
        heart.add(clause)
    while not heart.has_ended():
        heart.step()
    return heart


def refutation(heart):
    """The paper of a heart that has refuted, or None."""
    if heart.refuted is None:
        return None
    return cut_lines(heart.rows[:heart.refuted + 1])
