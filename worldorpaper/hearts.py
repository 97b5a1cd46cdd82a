"""Hearts: inferring from clauses without unknowns until nothing new follows."""

from worldorpaper.clauses import is_ground
from worldorpaper.errors import BadStep
from worldorpaper.inferring import Kept, factor_rows, join_result, joined
from worldorpaper.lines import cut_lines
from worldorpaper.numberclauses import factored_clause, numbered_clause, plain_clause
from worldorpaper.ranks import RankedClause, Ranks


class Heart:
    """A paper in lines that grows by inferences from the given clauses."""

    def __init__(self, signature, order, picks=()):
        self.signature = signature
        self.order = order
        self.given = []
        self.rows = []
        self.waiting = []
        self.kept = []
        self.steps = 0
        self.refuted = None
        self.ranks = Ranks(order)
        self.ranked_kept = Kept(self.ranks)
        self._picks = tuple(picks)
        # The numbered clauses of the rows, and which ones there are.
        self._numbered = []
        self._met = {}

    @property
    def kept_clauses(self):
        """The clauses of the kept rows."""
        return [self.rows[row][0] for row in self.kept]

    def add(self, clause):
        """Takes in a clause; raises BadStep if it has unknowns."""
        if not is_ground(clause):
            raise BadStep("the clause has unknowns")
        self.add_numbered(numbered_clause(self.ranks.sides, clause))

    def add_numbered(self, clause):
        """Takes in a clause with numbers for its sides."""
        self._append_row(clause, ("given", len(self.given)))
        self.given.append(self.rows[-1][0])
        self.waiting.append(len(self.rows) - 1)

    def has_ended(self):
        """Tells whether the heart has refuted or no row waits."""
        return self.refuted is not None or len(self.waiting) == 0

    def step(self):
        """Takes a row that waits, makes it simpler, and infers from it."""
        if self.has_ended():
            return
        row = self._take_row()
        clause = self._numbered[row]
        while not self.ranked_kept.makes_needless(clause):
            ranked = RankedClause(self.ranks, clause)
            step = self.ranked_kept.simpler(ranked)
            if step is None:
                self._settle(row, ranked)
                return
            clause = self.ranked_kept.simplified(clause, step)
            self._append_row(clause, self._reason(step, row))
            row = len(self.rows) - 1

    def _take_row(self):
        picked = 0
        if len(self._picks) > 0:
            picked = self._picks[self.steps % len(self._picks)] % len(self.waiting)
        self.steps += 1
        return self.waiting.pop(picked)

    def _reason(self, step, row):
        """The reason for what a step of `simpler` makes of a row."""
        if step[0] == "drop":
            return ("drop", row)
        _, index, side, target, place = step
        return ("replace", self.kept[index], 0, side, row, target, place)

    def _settle(self, row, ranked):
        """Keeps a row that cannot be made simpler, or refutes by it."""
        if len(ranked.clause) == 0:
            self.refuted = row
            return
        for step in factor_rows(ranked):
            self._infer(factored_clause(self.ranks.sides, ranked.clause, *step), ("factor", row) + step)
        for index in self.ranked_kept.partners(ranked):
            other_row, other = self.kept[index], self.ranked_kept.clauses[index]
            self._infer_join(other_row, other, row, ranked)
            self._infer_join(row, ranked, other_row, other)
        self.kept.append(row)
        self.ranked_kept.keep(ranked)

    def _infer_join(self, first_row, first, second_row, second):
        step = joined(self.ranks, first, second)
        if step is not None:
            index, side, target, place = step
            reason = ("replace", first_row, index, side, second_row, target, place)
            self._infer(join_result(self.ranks, first, second, step), reason)

    def _infer(self, clause, reason):
        if clause not in self._met:
            self._append_row(clause, reason)
            self.waiting.append(len(self.rows) - 1)

    def _append_row(self, clause, reason):
        self.rows.append((plain_clause(self.ranks.sides, clause), reason))
        self._numbered.append(clause)
        self._met[clause] = True


def saturate(signature, order, clauses, *, picks=()):
    """A heart that has taken in the clauses and ended."""
    heart = Heart(signature, order, picks)
    for clause in clauses:
        heart.add(clause)
    while not heart.has_ended():
        heart.step()
    return heart


def refutation(heart):
    """The paper of a heart that has refuted, or None."""
    if heart.refuted is None:
        return None
    return cut_lines(heart.rows[:heart.refuted + 1])
