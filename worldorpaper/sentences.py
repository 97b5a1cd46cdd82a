"""Sentences: what is free in them, how deep they bind, and filling."""

from worldorpaper.terms import fill_term, unknowns_of

BINDERS = ("all", "some")
BASIC = ("holds", "same")
# From the word that binds tightest to the one that binds loosest.
PAIRS = ("and", "or", "implies", "iff")


def inner_sentences(sentence):
    """The sentences directly inside a sentence, in order."""
    word = sentence[0]
    if word in BASIC:
        return ()
    if word in BINDERS:
        return sentence[2:]
    return sentence[1:]


def parts_inside(sentence):
    """The sentence itself and all sentences inside it, in preorder."""
    parts = [sentence]
    for part in inner_sentences(sentence):
        parts.extend(parts_inside(part))
    return parts


def free_unknowns(sentence):
    """The unknowns that occur unbound, in order of first unbound occurrence."""
    if sentence[0] in BASIC:
        rows = [unknowns_of(term) for term in sentence[1:]]
    else:
        rows = [free_unknowns(part) for part in inner_sentences(sentence)]
    found = {}
    for row in rows:
        for name in row:
            found[name] = True
    if sentence[0] in BINDERS:
        return [name for name in found if name != sentence[1]]
    return list(found)


def quantifier_depth(sentence):
    """The greatest number of binders inside one another."""
    depths = [quantifier_depth(part) for part in inner_sentences(sentence)]
    own = 1 if sentence[0] in BINDERS else 0
    return own + max(depths, default=0)


def fill_sentence(sentence, filling):
    """The sentence with the unbound occurrences of the unknowns filled."""
    word = sentence[0]
    if word in BASIC:
        return (word,) + tuple([fill_term(term, filling) for term in sentence[1:]])
    if word in BINDERS:
        name = sentence[1]
        unhidden = {key: filling[key] for key in filling if key != name}
        return (word, name, fill_sentence(sentence[2], unhidden))
    return (word,) + tuple([fill_sentence(part, filling) for part in sentence[1:]])


def is_free(name, sentence):
    """Tells whether an unknown occurs unbound."""
    if sentence[0] in BASIC:
        return any([name in unknowns_of(term) for term in sentence[1:]])
    if sentence[0] in BINDERS and sentence[1] == name:
        return False
    return any(is_free(name, part) for part in inner_sentences(sentence))


def bound_names(sentence):
    """The names that stand behind binders, without duplicates."""
    return list({part[1]: True for part in parts_inside(sentence) if part[0] in BINDERS})
