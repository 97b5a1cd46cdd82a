"""The desk: commands for a bench, one a line."""

from worldorpaper.benches import Bench
from worldorpaper.books import Signature
from worldorpaper.errors import BadDeed, BadText, WorldOrPaperError
from worldorpaper.kinds import told_size
from worldorpaper.questions import follows
from worldorpaper.reading import ARITIES, read_sentence
from worldorpaper.worlds import world_text
from worldorpaper.writing import sentence_text


def run(text, rounds=200):
    """The lines that the commands of a text write."""
    desk = Desk(rounds)
    written = []
    for number, line in enumerate(text.split("\n"), start=1):
        if line.strip(" ") != "" and not line.startswith("#"):
            written.extend(desk.lines_for(number, line))
    return written


class Desk:
    """Declares names until the first other command, and then does all commands on one bench."""

    def __init__(self, rounds):
        self._rounds = rounds
        self._signature = Signature([], [])
        # None as long as names can be declared.
        self._bench = None
        self._last_answer = None

    def lines_for(self, number, line):
        """The lines that a command writes, or one that says why it fails."""
        try:
            return self._reply_to(line)
        except BadText as error:
            return [f"line {number}: cannot be read at {error.line}, {error.column}"]
        except BadDeed:
            return [f"line {number}: cannot be done"]
        except WorldOrPaperError:
            return [f"line {number}: does not fit"]

    def _reply_to(self, line):
        head, colon, text = line.partition(":")
        words = [word for word in head.split(" ") if word != ""]
        if colon != "":
            return self._reply_to_sentence(words, text)
        if len(words) == 3 and words[0] in ("function", "relation"):
            return self._declare(words[0], words[1], words[2])
        if words == ["world"]:
            return self._world_lines()
        if len(words) == 2 and words[0] == "drop":
            self._ready_bench().drop(words[1])
            return [f"dropped {words[1]}"]
        if words == ["ask"]:
            return [self._ask()]
        if words == ["undo"]:
            return ["undone" if self._ready_bench().undo() else "nothing to undo"]
        if words == ["show"]:
            return self._shown_lines()
        raise BadDeed("there is no such command")

    def _reply_to_sentence(self, words, text):
        is_labelled = len(words) == 2 and words[0] in ("say", "derive")
        if not is_labelled and words != ["follows"]:
            raise BadDeed("there is no such command")
        bench = self._ready_bench()
        sentence = read_sentence(text, self._signature)
        if words[0] == "say":
            bench.add(words[1], sentence)
            return [f"said {words[1]}"]
        book = bench.full_book()
        rounds = self._rounds_for(book.with_sentence(("not", sentence)))
        if words[0] == "derive":
            return [words[1] + ": " + bench.derive(words[1], sentence, rounds)]
        word, _ = follows(book, sentence, rounds)
        return [word]

    def _declare(self, word, name, arity):
        if self._bench is not None or arity not in ARITIES:
            raise BadDeed("the name cannot be declared so or at this time")
        pair = (name, ARITIES[arity])
        functions, relations = self._signature.functions, self._signature.relations
        if word == "function":
            self._signature = Signature(functions + (pair,), relations)
        else:
            self._signature = Signature(functions, relations + (pair,))
        return [f"{word} {name}"]

    def _ready_bench(self):
        """The bench; from now on no name can be declared."""
        if self._bench is None:
            self._bench = Bench(self._signature)
        return self._bench

    def _rounds_for(self, book):
        return self._rounds if told_size(book) is None else None

    def _ask(self):
        bench = self._ready_bench()
        answer = bench.ask(self._rounds_for(bench.book()))
        self._last_answer = answer
        if answer.verdict == "refuted":
            return "refuted by " + answer.paper[0]
        if answer.verdict == "world":
            things = "1 thing" if answer.world.size == 1 else f"{answer.world.size} things"
            return "world of " + things
        return answer.verdict

    def _world_lines(self):
        if self._last_answer is None or self._last_answer.world is None:
            raise BadDeed("there is no world")
        return world_text(self._last_answer.world).split("\n")

    def _shown_lines(self):
        bench = self._ready_bench()
        lines = [label + ": " + sentence_text(bench.sentence(label)) for label in bench.labels()]
        for label, sentence, labels in bench.derived():
            rests_on = ", ".join(labels)
            lines.append(f"{label}: {sentence_text(sentence)} [from {rests_on}]")
        return lines if len(lines) > 0 else ["nothing"]
