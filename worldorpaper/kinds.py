"""Kinds of books that have a world of a told size if they have one at all."""

from worldorpaper.errors import NotOfKind
from worldorpaper.sentences import BASIC, parts_inside, quantifier_depth
from worldorpaper.shaping import negation_form
from worldorpaper.terms import parts_of, term_text, unknowns_of
from worldorpaper.worlds import table_length


def names_in(book):
    """The names that stand in a book, in the order of the signature."""
    standing = {}
    for side in _sides_in(book):
        for part in parts_of(side):
            if not isinstance(part, str):
                standing[part[0]] = True
    return [name for name in book.signature.names() if name in standing]


def functions_in(book, arities):
    """The functions that stand in a book and have one of the arities."""
    signature = book.signature
    return [name for name in names_in(book) if signature.has_function(name) and signature.arity(name) in arities]


def relations_in(book, arities):
    """The relations that stand in a book and have one of the arities."""
    signature = book.signature
    return [name for name in names_in(book) if signature.has_relation(name) and signature.arity(name) in arities]


def greatest_depth(book):
    """The greatest quantifier depth of the sentences of a book, or 0."""
    return max([quantifier_depth(sentence) for sentence in book.sentences], default=0)


def ground_terms(book):
    """The terms without unknowns in a book, parts included, in order of first occurrence."""
    found = {term_text(part): part for part in _term_parts(book) if _is_ground(part)}
    return list(found.values())


def listing(book):
    """The index of the sentence that lists the fewest terms, and their number; or None."""
    best = None
    for index, sentence in enumerate(book.sentences):
        count = _count_listed(negation_form(sentence))
        if count is not None and (best is None or count < best[1]):
            best = (index, count)
    return best


def is_single(book):
    """Tells whether no names but facts, marks and constants stand in a book."""
    return len(functions_in(book, (1, 2, 3)) + relations_in(book, (2, 3))) == 0


def is_prefix(book):
    """Tells whether functions have no unknowns below them and no `some` lies inside an `all`."""
    for part in _term_parts(book):
        if not isinstance(part, str) and len(part) > 1 and not _is_ground(part):
            return False
    return not any([_has_some_in_all(negation_form(sentence)) for sentence in book.sentences])


def is_linked(book):
    """Tells whether only constants stand in a book and each negation form is positive or guarded."""
    if len(functions_in(book, (1, 2, 3))) > 0:
        return False
    forms = [negation_form(sentence) for sentence in book.sentences]
    return all([_is_positive(form) or _is_guarded(form) for form in forms])


def kinds_of(book):
    """The words of the kinds of which a book is."""
    kinds = ["listed"] if listing(book) is not None else []
    if is_prefix(book):
        kinds.append("prefix")
    if is_single(book):
        kinds.append("single")
    if is_linked(book):
        kinds.append("linked")
    return kinds


def enough(book, kind):
    """A size such that the book has a world of at most this size if it has one at all."""
    if kind not in kinds_of(book):
        raise NotOfKind("the book is not of the kind")
    return _size(book, kind)


def told_size(book):
    """The least of the sizes of the kinds of a book, or None."""
    return min([_size(book, kind) for kind in kinds_of(book)], default=None)


def _size(book, kind):
    """The size of a kind of which the book is."""
    if kind == "listed":
        _, count = listing(book)
        return count
    if kind == "prefix":
        somes = [part for sentence in book.sentences for part in _parts_with(negation_form(sentence), "some")]
        return max(1, len(ground_terms(book)) + len(somes))
    sorts = table_length(2, len(relations_in(book, (1,))))
    if kind == "linked":
        return sorts
    return max(1, len(functions_in(book, (0,))) + greatest_depth(book) * sorts)


def _sides_in(book):
    """The atoms of a book and the sides of its equations, from left to right."""
    basics = [part for sentence in book.sentences for part in parts_inside(sentence) if part[0] in BASIC]
    return [side for basic in basics for side in basic[1:]]


def _term_parts(book):
    """The parts of the terms of a book, duplicates included."""
    found = []
    for side in _sides_in(book):
        terms = [side]
        if not isinstance(side, str) and book.signature.has_relation(side[0]):
            terms = side[1:]
        for term in terms:
            found.extend(parts_of(term))
    return found


def _is_ground(term):
    return len(unknowns_of(term)) == 0


def _parts_with(sentence, word):
    return [part for part in parts_inside(sentence) if part[0] == word]


def _joined_by_or(sentence):
    """The parts that `or` joins in any grouping."""
    if sentence[0] != "or":
        return [sentence]
    return _joined_by_or(sentence[1]) + _joined_by_or(sentence[2])


def _count_listed(form):
    """The number of terms that a negation form lists, or None if it does not list."""
    if form[0] != "all":
        return None
    texts = []
    for part in _joined_by_or(form[2]):
        if part[0] != "same" or form[1] not in part[1:]:
            return None
        other = part[2] if part[1] == form[1] else part[1]
        if not _is_ground(other):
            return None
        texts.append(term_text(other))
    return len(set(texts))


def _has_some_in_all(form):
    return any([len(_parts_with(part, "some")) > 0 for part in _parts_with(form, "all")])


def _is_positive(form):
    """Tells whether no `not` stands before an equation or a relation of arity 2 or 3."""
    basics = [part[1] for part in _parts_with(form, "not")]
    return all([basic[0] == "holds" and len(basic[1]) <= 2 for basic in basics])


def _is_guarded(form):
    """Tells whether unlike unknowns are bound for all things for which one relation holds."""
    names = []
    part = form
    while part[0] == "all":
        names.append(part[1])
        part = part[2]
    guards = [one for one in _joined_by_or(part) if not _is_positive(one)]
    if len(guards) != 1 or guards[0][0] != "not" or guards[0][1][0] != "holds":
        return False
    arguments = guards[0][1][1][1:]
    if len(arguments) != len(names) or len(set(names)) != len(names):
        return False
    return all([name in arguments for name in names])
