"""Questions about books: what follows, what is independent, and which sentences are at odds."""

from worldorpaper.answers import decided_origins
from worldorpaper.books import Book
from worldorpaper.deciders import decide
from worldorpaper.forms import form_of
from worldorpaper.kinds import enough, kinds_of, listing, told_size
from worldorpaper.lines import given_used
from worldorpaper.trees import clauses_used, has_beyond

WORDS = {"refuted": "yes", "world": "no", "open": "open"}


def follows(book, sentence, rounds=None, *, picks=(), deal=(1, 0)):
    """Whether a sentence follows from a book, and the answer to the book with its opposite."""
    answer = decide(book.with_sentence(("not", sentence)), rounds, picks=picks, deal=deal)
    return WORDS[answer.verdict], answer


def independent(book, index, rounds=None):
    """Whether neither a sentence of a book nor its opposite follows from the others."""
    rest = book.without(index)
    sentence = book.sentences[index]
    first, _ = follows(rest, sentence, rounds)
    second, _ = follows(rest, ("not", sentence), rounds)
    if "yes" in (first, second):
        return "no"
    return "open" if "open" in (first, second) else "yes"


def sentences_used(book, paper):
    """The indexes of the sentences that a refutation names, ascending."""
    if paper[0] == "cases":
        return sorted(set(paper[1]))
    origins = decided_origins(form_of(book))
    if paper[0] == "lines":
        return sorted(set([origins[index] for index in given_used(paper[1])]))
    _, limit, tree = paper
    used = [origins[index] for index in clauses_used(tree)]
    if has_beyond(tree) and _needs_listing(book, limit):
        index, _ = listing(book)
        used.append(index)
    return sorted(set(used))


def least_at_odds(book, rounds):
    """The indexes of sentences that are at odds, as few as leaving out one after the other gives; or None."""
    left = list(range(len(book.sentences)))
    if not _is_refuted(book, left, rounds):
        return None
    for index in range(len(book.sentences)):
        rest = [other for other in left if other != index]
        if _is_refuted(book, rest, rounds):
            left = rest
    return left


def _needs_listing(book, limit):
    """Tells whether it is the kind `listed` alone that says that so many things are enough."""
    sizes = [enough(book, kind) for kind in kinds_of(book) if kind != "listed"]
    return not any([size <= limit for size in sizes])


def _is_refuted(book, indexes, rounds):
    part = Book(book.signature, [book.sentences[index] for index in indexes])
    most = rounds if told_size(part) is None else None
    return decide(part, most).verdict == "refuted"
