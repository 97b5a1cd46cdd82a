"""The form of a book: the clauses of its sentences, and the steps that lead to them."""

from worldorpaper.clauses import literal_text, make_literal
from worldorpaper.errors import BadArity, BadSentence
from worldorpaper.insides import binder_places, first_binder, parts_down_to
from worldorpaper.sentences import BASIC, bound_names, free_unknowns
from worldorpaper.shaping import MOST_ARGUMENTS, narrowing_steps, negation_steps, step_result
from worldorpaper.terms import TOP


class Form:
    """The clauses of a book, over its signature with new functions."""

    def __init__(self, book):
        maker = FormMaker(book)
        for index, sentence in enumerate(book.sentences):
            maker.shape(index, sentence)
        self.book = book
        self.signature = book.signature.extended(maker.functions)
        self.steps = tuple(maker.steps)
        self.chosen = tuple(maker.chosen)
        self.matrices = tuple(maker.matrices)
        clauses = []
        origins = []
        for index, matrix in enumerate(self.matrices):
            own = spread(matrix)
            clauses.extend(own)
            origins.extend([index] * len(own))
        self.clauses = tuple(clauses)
        self.origins = tuple(origins)

    def __iter__(self):
        return iter(self.clauses)


def form_of(book):
    """The form of a book."""
    return Form(book)


def spread(sentence):
    """The clauses of a sentence made by `and` and `or` from basic sentences and their opposites."""
    # Rows are kept as numbers of literals, which are quick to join and compare.
    literals = sorted(_literals(sentence), key=literal_text)
    return tuple([tuple([literals[number] for number in row]) for row in _rows(sentence, literals)])


class FormMaker:
    """Takes the steps of a form, sentence by sentence."""

    def __init__(self, book):
        self.functions = []
        self.steps = []
        self.chosen = []
        self.matrices = []
        self._taken = {}
        self._last_numbers = {}
        for name in book.signature.names():
            self._taken[name] = True
        for sentence in book.sentences:
            for name in bound_names(sentence):
                self._taken[name] = True

    def shape(self, index, sentence):
        """Takes the steps from a sentence to its matrix."""
        matrix = self._narrowed(index, sentence)
        matrix = self._with_names_apart(index, matrix)
        matrix = self._with_choices(index, matrix)
        self.matrices.append(self._freed(index, matrix))

    def _narrowed(self, index, sentence):
        now = sentence
        for word, place, after in negation_steps(sentence):
            self.steps.append((index, word, place, "", after))
            now = after
        shaped = now
        for word, place, after in narrowing_steps(shaped):
            self.steps.append((index, word, place, "", after))
            now = after
        return now

    def _with_names_apart(self, index, sentence):
        now = sentence
        for place in binder_places(sentence):
            now = self._step(index, "apart", now, place, self._new_name("x"))
        return now

    def _with_choices(self, index, sentence):
        now = sentence
        place = first_binder(now, "some")
        while place is not None:
            part = parts_down_to(now, place)[-1]
            unknowns = tuple(free_unknowns(part))
            if len(unknowns) > MOST_ARGUMENTS:
                raise BadArity("a new function would have more than three arguments")
            function = self._new_name("w")
            self.functions.append((function, len(unknowns)))
            self.chosen.append((function, unknowns, part[1], part[2]))
            now = self._step(index, "choose", now, place, function)
            place = first_binder(now, "some")
        return now

    def _freed(self, index, sentence):
        now = sentence
        place = first_binder(now, "all")
        while place is not None:
            now = self._step(index, "free", now, place, "")
            place = first_binder(now, "all")
        return now

    def _step(self, index, word, sentence, place, name):
        after = step_result(word, sentence, place, name)
        self.steps.append((index, word, place, name, after))
        return after

    def _new_name(self, stem):
        # Names stay taken, so the search can go on where the last one with this stem ended.
        number = self._last_numbers.get(stem, 0) + 1
        while f"{stem}{number}" in self._taken:
            number += 1
        self._last_numbers[stem] = number
        self._taken[f"{stem}{number}"] = True
        return f"{stem}{number}"


def _literals(sentence):
    """The literals in a sentence that can be spread, without duplicates; raises BadSentence for another one."""
    literal = _literal_of(sentence)
    if literal is not None:
        return [literal]
    if sentence[0] not in ("and", "or"):
        raise BadSentence("the sentence cannot be spread")
    found = _literals(sentence[1])
    for other in _literals(sentence[2]):
        if other not in found:
            found.append(other)
    return found


def _literal_of(sentence):
    """The literal that a basic sentence or its opposite stands for, or None for other sentences."""
    sign = sentence[0] != "not"
    basic = sentence if sign else sentence[1]
    if basic[0] not in BASIC:
        return None
    if basic[0] == "holds":
        return make_literal(sign, basic[1], TOP)
    return make_literal(sign, basic[1], basic[2])


def _rows(sentence, literals):
    """The rows of a sentence, each as the ascending numbers of its literals, without duplicates."""
    literal = _literal_of(sentence)
    if literal is not None:
        return [(literals.index(literal),)]
    word, first, second = sentence
    first_rows = _rows(first, literals)
    second_rows = _rows(second, literals)
    if word == "and":
        return _without_duplicates(first_rows + second_rows)
    joined = [tuple(sorted(set(one + other))) for one in first_rows for other in second_rows]
    return _without_duplicates(joined)


def _without_duplicates(rows):
    found = {}
    for row in rows:
        found[row] = True
    return list(found)
