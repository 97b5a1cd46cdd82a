"""The judge of the steps and clauses of a form."""

from worldorpaper.errors import BadSentence, BadStep
from worldorpaper.forms import spread
from worldorpaper.sentences import bound_names
from worldorpaper.shaping import step_result

NAMING = ("apart", "choose")


def first_wrong_step(book, steps):
    """The index of the first row that is not right, or None."""
    return _go_through(book, steps)[0]


def judge_form(book, steps, clauses):
    """Tells whether the steps are right and lead to exactly these clauses."""
    wrong, present = _go_through(book, steps)
    if wrong is not None:
        return False
    made = []
    for sentence in present:
        try:
            made.extend(spread(sentence))
        except BadSentence:
            return False
    return made == list(clauses)


def _go_through(book, steps):
    """The index of the first wrong row or None, and the present sentences there."""
    present = list(book.sentences)
    taken = {}
    for sentence in book.sentences:
        for name in bound_names(sentence):
            taken[name] = True
    for at, row in enumerate(steps):
        index, word, place, name, after = row
        if not 0 <= index < len(present) or not _fits(book.signature, taken, word, name):
            return at, present
        if not _leads(present[index], word, place, name, after):
            return at, present
        present[index] = after
        taken[name] = True
    return None, present


def _fits(signature, taken, word, name):
    if word in NAMING:
        return not signature.has(name) and name not in taken
    return name == ""


def _leads(sentence, word, place, name, after):
    try:
        return step_result(word, sentence, place, name) == after
    except BadStep:
        return False
