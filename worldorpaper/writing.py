"""Writing sentences and books."""

from worldorpaper.sentences import BINDERS
from worldorpaper.terms import term_text


def sentence_text(sentence):
    """The text of a sentence."""
    word = sentence[0]
    if word == "holds":
        return term_text(sentence[1])
    if word == "same":
        return term_text(sentence[1]) + " = " + term_text(sentence[2])
    if word == "not":
        return _denial_text(sentence[1])
    if word in BINDERS:
        return word + " " + sentence[1] + ". " + sentence_text(sentence[2])
    return "(" + _first_text(sentence[1]) + " " + word + " " + sentence_text(sentence[2]) + ")"


def book_text(book):
    """The text of a book."""
    lines = []
    for name, arity in book.signature.functions:
        lines.append(f"function {name} {arity}")
    for name, arity in book.signature.relations:
        lines.append(f"relation {name} {arity}")
    for sentence in book.sentences:
        lines.append("sentence " + sentence_text(sentence))
    return "\n".join(lines)


def _denial_text(part):
    if part[0] == "same":
        return term_text(part[1]) + " != " + term_text(part[2])
    return "not " + sentence_text(part)


def _first_text(part):
    # Behind a binder the reader would take in the word and the second part, too.
    core = part
    while core[0] == "not":
        core = core[1]
    if core[0] in BINDERS:
        return "(" + sentence_text(part) + ")"
    return sentence_text(part)
