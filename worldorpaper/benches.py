"""Benches: sentences under labels, what follows from them, and deeds that can be taken back."""

from worldorpaper.answers import Judge
from worldorpaper.books import Book
from worldorpaper.deciders import decide
from worldorpaper.errors import BadDeed
from worldorpaper.names import is_small_name
from worldorpaper.questions import follows, sentences_used


class Bench:
    """Sentences over a signature and derived sentences, each under a label."""

    def __init__(self, signature):
        self.reused = 0
        self._signature = signature
        # Pairs of a label and a sentence, and triples of a label, a sentence and the labels it rests on.
        self._added = []
        self._derived = []
        self._answers = []
        # Triples of a deed and the sentences and derived sentences before it.
        self._done = []

    def labels(self):
        """The labels of the sentences, in order."""
        return [label for label, _ in self._added]

    def derived(self):
        """The derived sentences, each with its label and the labels of the sentences that it rests on."""
        return list(self._derived)

    def sentence(self, label):
        """The sentence or derived sentence with a label; raises BadDeed if there is none."""
        sentences = self._by_label()
        if label not in sentences:
            raise BadDeed("there is no such label")
        return sentences[label]

    def book(self):
        """The book of the sentences."""
        return Book(self._signature, [sentence for _, sentence in self._added])

    def full_book(self):
        """The book of the sentences and the derived sentences behind them."""
        return Book(self._signature, list(self._by_label().values()))

    def add(self, label, sentence):
        """Adds a sentence at the end."""
        self._check_new(label, sentence)
        self._do(("add", label, sentence), self._added + [(label, sentence)], self._derived)

    def drop(self, label):
        """Takes away a sentence and all that rests on it, or a derived sentence."""
        self.sentence(label)
        added = [row for row in self._added if row[0] != label]
        derived = [row for row in self._derived if row[0] != label and label not in row[2]]
        self._do(("drop", label), added, derived)

    def derive(self, label, sentence, rounds=None):
        """Makes a sentence a derived one if it follows; returns the word that says whether it does."""
        self._check_new(label, sentence)
        book = self.full_book()
        word, answer = follows(book, sentence, rounds)
        if word == "yes":
            used = sentences_used(book.with_sentence(("not", sentence)), answer.paper)
            row = (label, sentence, self._ground_of(used))
            self._do(("derive", label, sentence, rounds), self._added, self._derived + [row])
        return word

    def ask(self, rounds=None):
        """An answer to the book of the sentences, which can be one that was given before."""
        book = self.book()
        judge = Judge(book)
        for answer in self._answers:
            if judge.accepts(answer):
                self.reused += 1
                return answer
        answer = decide(book, rounds)
        if answer.verdict != "open":
            self._answers.append(answer)
        return answer

    def deeds(self):
        """The deeds that were done and not taken back, in order."""
        return [deed for deed, _, _ in self._done]

    def undo(self):
        """Takes back the last deed; tells False if there is none."""
        if len(self._done) == 0:
            return False
        _, added, derived = self._done.pop()
        self._added = added
        self._derived = derived
        return True

    def _by_label(self):
        sentences = {label: sentence for label, sentence in self._added}
        for label, sentence, _ in self._derived:
            sentences[label] = sentence
        return sentences

    def _check_new(self, label, sentence):
        if not is_small_name(label) or label in self._by_label():
            raise BadDeed("the label is malformed or in use")
        self._signature.check_sentence(sentence)

    def _ground_of(self, used):
        """The labels of the sentences on which a sentence rests that follows from these of the full book."""
        rests_on = {}
        for index in used:
            if index < len(self._added):
                rests_on[self._added[index][0]] = True
            elif index < len(self._added) + len(self._derived):
                _, _, labels = self._derived[index - len(self._added)]
                for label in labels:
                    rests_on[label] = True
        return tuple([label for label in self.labels() if label in rests_on])

    def _do(self, deed, added, derived):
        self._done.append((deed, self._added, self._derived))
        self._added = added
        self._derived = derived


def replay(signature, deeds):
    """A new bench on which the deeds were done."""
    bench = Bench(signature)
    for deed in deeds:
        if deed[0] == "add":
            bench.add(deed[1], deed[2])
        elif deed[0] == "drop":
            bench.drop(deed[1])
        else:
            bench.derive(deed[1], deed[2], deed[3])
    return bench
