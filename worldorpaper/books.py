"""Signatures and books."""

from worldorpaper.errors import BadArity, BadName, BadSentence, BadTerm, UnknownName
from worldorpaper.names import is_capital_name, is_small_name
from worldorpaper.sentences import BASIC, BINDERS, inner_sentences

GREATEST_ARITY = 3


class Signature:
    """The functions and relations that sentences can name."""

    def __init__(self, functions, relations):
        self.functions = tuple([(name, arity) for name, arity in functions])
        self.relations = tuple([(name, arity) for name, arity in relations])
        self._function_arities = {}
        self._relation_arities = {}
        for name, arity in self.functions:
            self._check_pair(name, arity, is_small_name(name))
            self._function_arities[name] = arity
        for name, arity in self.relations:
            self._check_pair(name, arity, is_capital_name(name))
            self._relation_arities[name] = arity

    def has(self, name):
        """Tells whether the name is listed."""
        return self.has_function(name) or self.has_relation(name)

    def has_function(self, name):
        """Tells whether the name is listed as that of a function."""
        return name in self._function_arities

    def has_relation(self, name):
        """Tells whether the name is listed as that of a relation."""
        return name in self._relation_arities

    def arity(self, name):
        """The arity of a listed name; raises UnknownName for another one."""
        if self.has_function(name):
            return self._function_arities[name]
        if self.has_relation(name):
            return self._relation_arities[name]
        raise UnknownName("the name is not listed")

    def names(self):
        """All listed names, functions before relations."""
        return [name for name, _ in self.functions + self.relations]

    def constants(self):
        """The functions of arity 0, in order."""
        return [name for name, arity in self.functions if arity == 0]

    def extended(self, functions):
        """The signature with further functions at the end."""
        return Signature(self.functions + tuple(functions), self.relations)

    def check_term(self, term, unknowns):
        """Raises BadTerm unless the term fits."""
        due = [term]
        while len(due) > 0:
            part = due.pop()
            if isinstance(part, str):
                if part not in unknowns or not is_small_name(part) or self.has(part):
                    raise BadTerm("the unknown is not known")
            else:
                if not self.has_function(part[0]) or self.arity(part[0]) != len(part) - 1:
                    raise BadTerm("the function is not listed with so many arguments")
                due.extend(part[1:])

    def check_sentence(self, sentence, unknowns=()):
        """Raises BadSentence or BadTerm unless the sentence fits."""
        word = sentence[0]
        known = list(unknowns)
        if word in BASIC:
            self._check_basic(sentence, known)
        if word in BINDERS:
            name = sentence[1]
            if not is_small_name(name) or self.has(name):
                raise BadSentence("the name cannot be bound")
            known.append(name)
        for part in inner_sentences(sentence):
            self.check_sentence(part, known)

    def _check_pair(self, name, arity, is_well_formed):
        if not is_well_formed or self.has(name):
            raise BadName("the name is malformed or listed before")
        if not 0 <= arity <= GREATEST_ARITY:
            raise BadArity("the arity is not in the range 0 to 3")

    def _check_basic(self, sentence, known):
        terms = sentence[1:]
        if sentence[0] == "holds":
            atom = sentence[1]
            if not self.has_relation(atom[0]) or self.arity(atom[0]) != len(atom) - 1:
                raise BadSentence("the relation is not listed with so many arguments")
            terms = atom[1:]
        for term in terms:
            self.check_term(term, known)


class Book:
    """A list of sentences without free unknowns over a signature."""

    def __init__(self, signature, sentences):
        self.signature = signature
        self.sentences = tuple(sentences)
        for sentence in self.sentences:
            signature.check_sentence(sentence)

    def with_sentence(self, sentence):
        """The book with one more sentence at the end."""
        return Book(self.signature, self.sentences + (sentence,))

    def without(self, index):
        """The book without the sentence at the index."""
        return Book(self.signature, [sentence for at, sentence in enumerate(self.sentences) if at != index])


def same_lists(first, second):
    """Tells whether two signatures list the same functions and relations in the same order."""
    return first.functions == second.functions and first.relations == second.relations
