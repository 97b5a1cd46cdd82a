"""Case papers: for each case a sentence that is false in its small world."""

from worldorpaper.sorts import case_size, small_worlds
from worldorpaper.truth import sentence_true


def case_paper(book):
    """The first false sentence of each case, or None if some small world makes the book true."""
    return _paper_of(book, list(small_worlds(book)))


def judge_cases(book, paper):
    """Tells whether a paper shows that no world makes the book true."""
    return _judge(book, list(small_worlds(book)), paper)


def cases_before_paper(book, size):
    """A paper like that of case_paper, for the cases of less than this size."""
    return _paper_of(book, _pairs_before(book, size))


def judge_cases_before(book, size, paper):
    """Tells whether a paper shows that no world with fewer things makes the book true."""
    return _judge(book, _pairs_before(book, size), paper)


def _pairs_before(book, size):
    return [(case, world) for case, world in small_worlds(book) if case_size(case) < size]


def _paper_of(book, pairs):
    paper = []
    for _, world in pairs:
        index = _first_false(book, world)
        if index is None:
            return None
        paper.append(index)
    return tuple(paper)


def _first_false(book, world):
    for index, sentence in enumerate(book.sentences):
        if not sentence_true(world, sentence):
            return index
    return None


def _judge(book, pairs, paper):
    if len(pairs) != len(paper):
        return False
    for (_, world), index in zip(pairs, paper):
        if not 0 <= index < len(book.sentences) or sentence_true(world, book.sentences[index]):
            return False
    return True
