"""Answers to books, and their judge."""

from worldorpaper.books import same_lists
from worldorpaper.casepapers import judge_cases, judge_cases_before
from worldorpaper.fillings import named_signature
from worldorpaper.forms import form_of
from worldorpaper.kinds import is_single, told_size
from worldorpaper.lines import judge_lines
from worldorpaper.reducing import needed_clauses
from worldorpaper.trees import judge_tree
from worldorpaper.truth import book_true


class Answer:
    """A verdict with the world or the paper that shows it."""

    def __init__(self, verdict, *, world=None, paper=None, rounds=0):
        self.verdict = verdict
        self.world = world
        self.paper = paper
        self.rounds = rounds


def decided_clauses(form):
    """The needed clauses of a form."""
    return [form.clauses[index] for index in needed_clauses(form.clauses)]


def decided_origins(form):
    """For each decided clause the index of the sentence that it comes from."""
    return [form.origins[index] for index in needed_clauses(form.clauses)]


def judge_answer(book, answer):
    """Tells whether an answer shows its verdict for a book."""
    return Judge(book).accepts(answer)


class Judge:
    """Judges answers to one book, whose form is made when it is first needed."""

    def __init__(self, book):
        self._book = book
        self._form = None
        self._clauses = []

    def accepts(self, answer):
        """Tells whether an answer shows its verdict."""
        if answer.verdict == "refuted":
            return answer.world is None and answer.paper is not None and self._refutes(answer.paper)
        if answer.verdict == "world":
            return answer.world is not None and self._is_least(answer.world, answer.paper)
        return answer.verdict == "open" and answer.world is None and answer.paper is None

    def _refutes(self, paper):
        """Tells whether a paper shows that no world makes the book true."""
        if paper[0] == "cases":
            return is_single(self._book) and judge_cases(self._book, paper[1])
        if paper[0] == "lines":
            self._make_form()
            return judge_lines(named_signature(self._form.signature), self._clauses, paper[1])
        _, limit, tree = paper
        word = self._judge_tree(limit, tree)
        if word != "beyond":
            return word == "closed"
        told = told_size(self._book)
        return told is not None and told <= limit

    def _is_least(self, world, paper):
        """Tells whether a world makes the book true and a paper shows that no world with fewer things does."""
        if not same_lists(world.signature, self._book.signature) or not book_true(world, self._book):
            return False
        if world.size == 1 or paper is None:
            return world.size == 1 and paper is None
        if paper[0] == "cases":
            return is_single(self._book) and judge_cases_before(self._book, world.size, paper[1])
        if paper[0] != "tree" or paper[1] != world.size - 1:
            return False
        return self._judge_tree(paper[1], paper[2]) != "wrong"

    def _judge_tree(self, limit, tree):
        self._make_form()
        return judge_tree(self._form.signature, self._clauses, limit, tree)

    def _make_form(self):
        if self._form is None:
            self._form = form_of(self._book)
            self._clauses = decided_clauses(self._form)
