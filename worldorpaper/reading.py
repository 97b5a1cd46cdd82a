"""Reading terms, sentences and books."""

from worldorpaper.books import Book, Signature
from worldorpaper.errors import BadText
from worldorpaper.names import is_capital_name, is_small_name
from worldorpaper.scanning import line_words_and_end, words_and_end
from worldorpaper.sentences import BINDERS, PAIRS

ARITIES = {"0": 0, "1": 1, "2": 2, "3": 3}


class Reader:
    """Goes through words from left to right and refuses the first one that cannot stand where it stands."""

    def __init__(self, words):
        self.words = words
        self.position = 0

    def word(self):
        """The word at which the reader stands."""
        return self.words[self.position][0]

    def take(self, accepted):
        """Goes on behind the present word and returns it, if it is accepted."""
        word, line, column = self.words[self.position]
        if not accepted:
            raise BadText(line, column)
        self.position += 1
        return word

    def take_mark(self, mark):
        """Goes on behind a mark that must stand here."""
        self.take(self.word() == mark)

    def end(self):
        """Refuses the present word unless it is the end."""
        self.take_mark("")

    def term(self, signature, known):
        """Reads a term; known are the known unknowns."""
        if self.word() in known:
            return self.take(True)
        name = self.take(signature.has_function(self.word()))
        return (name,) + self.arguments(signature, name, known)

    def arguments(self, signature, name, known):
        """Reads the arguments of a function or relation."""
        arity = signature.arity(name)
        if arity == 0:
            return ()
        found = []
        for mark in ["("] + [","] * (arity - 1):
            self.take_mark(mark)
            found.append(self.term(signature, known))
        self.take_mark(")")
        return tuple(found)

    def sentence(self, signature, known):
        """Reads a sentence."""
        parts = [self.simple(signature, known)]
        words = []
        while self.word() in PAIRS:
            words.append(self.take(True))
            parts.append(self.simple(signature, known))
        return _grouped(parts, words)

    def simple(self, signature, known):
        """Reads a simple sentence."""
        word = self.word()
        if word == "not":
            self.take(True)
            return ("not", self.simple(signature, known))
        if word in BINDERS:
            return self.bound(signature, known)
        if word == "(":
            self.take(True)
            inside = self.sentence(signature, known)
            self.take_mark(")")
            return inside
        if signature.has_relation(word):
            self.take(True)
            return ("holds", (word,) + self.arguments(signature, word, known))
        return self.equation(signature, known)

    def bound(self, signature, known):
        """Reads a binder and the sentence behind it."""
        word = self.take(True)
        name = self.take(is_small_name(self.word()) and not signature.has(self.word()))
        self.take_mark(".")
        return (word, name, self.sentence(signature, known + (name,)))

    def equation(self, signature, known):
        """Reads two terms that are said to be the same or not."""
        left = self.term(signature, known)
        mark = self.take(self.word() in ("=", "!="))
        same = ("same", left, self.term(signature, known))
        return same if mark == "=" else ("not", same)


def read_term(text, signature, unknowns=()):
    """The term that a text is."""
    reader = Reader(words_and_end(text))
    term = reader.term(signature, tuple(unknowns))
    reader.end()
    return term


def read_sentence(text, signature, unknowns=()):
    """The sentence that a text is."""
    reader = Reader(words_and_end(text))
    sentence = reader.sentence(signature, tuple(unknowns))
    reader.end()
    return sentence


def read_book(text):
    """The book that a text is."""
    lines = _lines_with_words(text)
    declaring = 0
    while declaring < len(lines) and lines[declaring][0][0] != "sentence":
        declaring += 1
    signature = _read_declarations(lines[:declaring])
    return Book(signature, [_read_sentence_line(words, signature) for words in lines[declaring:]])


def _lines_with_words(text):
    lines = []
    for number, line in enumerate(text.split("\n"), start=1):
        words = line_words_and_end(line, number)
        if words[0][0] != "":
            lines.append(words)
    return lines


def _read_declarations(lines):
    functions = []
    relations = []
    declared = []
    for words in lines:
        reader = Reader(words)
        word = reader.take(reader.word() in ("function", "relation"))
        is_well_formed = is_small_name(reader.word()) if word == "function" else is_capital_name(reader.word())
        name = reader.take(is_well_formed and reader.word() not in declared)
        arity = ARITIES[reader.take(reader.word() in ARITIES)]
        reader.end()
        declared.append(name)
        if word == "function":
            functions.append((name, arity))
        else:
            relations.append((name, arity))
    return Signature(functions, relations)


def _read_sentence_line(words, signature):
    reader = Reader(words)
    reader.take_mark("sentence")
    sentence = reader.sentence(signature, ())
    reader.end()
    return sentence


def _grouped(parts, words):
    """One sentence of several with these words between them; an earlier word of PAIRS binds tighter."""
    for word in PAIRS:
        if word == "implies":
            parts, words = _joined_to_the_right(parts, words, word)
        else:
            parts, words = _joined_to_the_left(parts, words, word)
    return parts[0]


def _joined_to_the_left(parts, words, word):
    joined = [parts[0]]
    left_over = []
    for other, part in zip(words, parts[1:]):
        if other == word:
            joined[-1] = (word, joined[-1], part)
        else:
            joined.append(part)
            left_over.append(other)
    return joined, left_over


def _joined_to_the_right(parts, words, word):
    joined = [parts[-1]]
    left_over = []
    for index in reversed(range(len(words))):
        if words[index] == word:
            joined[-1] = (word, parts[index], joined[-1])
        else:
            joined.append(parts[index])
            left_over.append(words[index])
    return joined[::-1], left_over[::-1]
