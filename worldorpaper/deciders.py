"""Deciding books by rounds."""

from worldorpaper.answers import Answer, decided_clauses
from worldorpaper.casepapers import case_paper, cases_before_paper
from worldorpaper.errors import NotOfKind
from worldorpaper.fillings import Fillings
from worldorpaper.forms import form_of
from worldorpaper.growing import Grower, most_nodes
from worldorpaper.kinds import is_single, told_size
from worldorpaper.likeness import reduct
from worldorpaper.sorts import least_case


class Decider:
    """Takes rounds on the roads of cases, trees and fillings until one of them decides the book."""

    def __init__(self, book, *, picks=(), elder_every=0, deal=(1, 0), cases=True):
        self.book = book
        self.form = form_of(book)
        self.clauses = tuple(decided_clauses(self.form))
        self.told = told_size(book)
        self.rounds = 0
        self.limit = 1
        self.answer = None
        self.found = None
        self._picks = tuple(picks)
        self._elder_every = elder_every
        of_trees, of_fillings = deal
        self._of_trees = of_trees
        self._of_fillings = of_fillings
        self._by_cases = cases and is_single(book)
        self._grower = self._new_grower()
        self._fillings = Fillings(self.form.signature, self.clauses, self._picks)
        # The paper that no world has fewer things than the limit of the grower.
        self._paper = None

    def has_answer(self):
        """Tells whether there is an answer that is not open."""
        return self.answer is not None

    def step(self):
        """Takes one round."""
        if self.has_answer():
            return
        place = self.rounds % (self._of_trees + self._of_fillings)
        self.rounds += 1
        if self._by_cases:
            self._decide_by_cases()
        elif place < self._of_trees or self._fillings.has_ended():
            self._grow()
        else:
            self._fill()

    def run(self, rounds=None):
        """Takes rounds until there is an answer or so many further ones are taken."""
        taken = 0
        while not self.has_answer():
            if rounds is not None and taken >= rounds:
                return Answer("open", rounds=self.rounds)
            self.step()
            taken += 1
        return self.answer

    def _new_grower(self):
        return Grower(
            self.form.signature, self.clauses, self.limit, picks=self._picks, elder_every=self._elder_every)

    def _decide_by_cases(self):
        found = least_case(self.book)
        if found is None:
            self._settle("refuted", None, ("cases", case_paper(self.book)))
            return
        _, world = found
        paper = None if world.size == 1 else ("cases", cases_before_paper(self.book, world.size))
        self._settle("world", world, paper)

    def _grow(self):
        self._grower.step()
        if self._grower.world is not None:
            self._settle("world", reduct(self._grower.world, self.book.signature), self._paper)
        elif self._grower.tree is not None:
            paper = ("tree", self.limit, self._grower.tree)
            if not self._grower.beyond or self.told is not None and self.told <= self.limit:
                self._settle("refuted", None, paper)
            else:
                self._paper = paper
                self.limit += 1
                self._grower = self._new_grower()

    def _fill(self):
        self._fillings.step()
        if self._fillings.heart.refuted is not None:
            self._settle("refuted", None, ("lines", tuple(self._fillings.paper())))
        elif self._fillings.world is not None:
            self.found = reduct(self._fillings.world, self.book.signature)

    def _settle(self, verdict, world, paper):
        self.answer = Answer(verdict, world=world, paper=paper, rounds=self.rounds)


def decide(book, rounds=None, *, picks=(), elder_every=0, deal=(1, 0), cases=True):
    """The answer of a new decider after so many rounds."""
    return Decider(book, picks=picks, elder_every=elder_every, deal=deal, cases=cases).run(rounds)


def rounds_enough(book, *, deal=(1, 0)):
    """A number of rounds after which a book that has a told size has an answer."""
    told = told_size(book)
    if told is None:
        raise NotOfKind("the book has no told size")
    signature = form_of(book).signature
    of_trees, of_fillings = deal
    nodes = sum([most_nodes(signature, limit) for limit in range(1, told + 1)])
    return (nodes // of_trees + 1) * (of_trees + of_fillings)
