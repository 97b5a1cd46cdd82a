import random

from tests.drawing import Case
from worldorpaper.benches import Bench
from worldorpaper.books import Signature
from worldorpaper.desk import run
from worldorpaper.errors import BadText
from worldorpaper.kinds import told_size
from worldorpaper.questions import follows
from worldorpaper.reading import read_sentence
from worldorpaper.worlds import world_text
from worldorpaper.writing import sentence_text

HEAD = "function a 0\nfunction f 1\nrelation P 1\nrelation R 2\nrelation Q 0\n"
DECLARED = ["function a", "function f", "relation P", "relation R", "relation Q"]


class Desk(Case):
    """Points 163 and 164."""

    def writes(self, lines, *commands, **more):
        """The lines that commands write behind the declarations."""
        self.gives(DECLARED + lines, run, HEAD + "\n".join(commands), **more)

    def alone(self, lines, *commands, **more):
        self.gives(lines, run, "\n".join(commands), **more)


class Lines(Desk):
    def test_lines_that_write_nothing(self):
        self.alone([], "")
        self.alone([], "", "   ", "#", "# say x: P", "#ask", "")
        self.alone(["nothing"], "", "show", "  ")
        # The first sign of the line is a space.
        self.alone(["line 1: cannot be done"], " # ask")
        self.alone(["line 2: cannot be done"], "# ask", "ask # ask")

    def test_spaces(self):
        self.writes(["said p", "world of 1 thing"], "  say    p  :  P(a)  ", "   ask  ")
        self.writes(["said p", "yes", "dropped p", "nothing"], "say p:P(a)", "follows   :P(a)", "   drop   p  ",
                    " show ")
        self.alone(["function a", "relation P"], "   function   a   0  ", "relation P  1")
        self.alone(["line 1: cannot be done", "line 2: cannot be done"], "\task", "function\ta 0")

    def test_lines_that_are_no_commands(self):
        for line in ("foo", "Ask", "ask ask", "ask 5", "undo p", "show p", "world 1", "drop", "drop p q", "function",
                     "function a",
                     "function a 0 0", "relation P", "say", "say p", "say p P(a)", "derive p", "follows",
                     "follows P(a)", ":",
                     ": P(a)", "say: P(a)", "say p q: P(a)", "derive: P(a)", "follows p: P(a)", "ask:", "ask: P(a)",
                     "show:", "undo:",
                     "world:", "drop p:", "drop: p", "function a 0:", "SAY p: P(a)", "says p: P(a)", "say:p P(a)",
                     "foo S 0", "functions c 0", "Relation S 1", "sentence P a"):
            self.writes(["line 6: cannot be done"], line)

    def test_the_number_of_the_line(self):
        self.alone(["line 3: cannot be done", "nothing", "line 6: cannot be done"], "", "# x", "foo", "show", "  ",
                   "bar")

    def test_the_first_colon_counts(self):
        self.writes(["line 6: cannot be read at 1, 6"], "say p: P(a): Q")
        self.writes(["line 6: cannot be done"], "say: p: P(a)")


class Declaring(Desk):
    def test_declarations(self):
        self.alone(["function a", "relation P", "function b", "said x", "world of 1 thing", "things 1", "a = 0",
                    "b = 0", "P = yes"],
                   "function a 0", "relation P 1", "function b 0", "say x: P(a) and P(b)", "ask", "world")

    def test_arities(self):
        for arity in "0123":
            self.alone(["function f", "relation P"], "function f " + arity, "relation P " + arity)
        for arity in ("4", "-1", "00", "01", "1.", "x", "10", "3.0"):
            self.alone(["line 1: cannot be done", "line 2: cannot be done", "function f"],
                       "function f " + arity, "relation P " + arity, "function f 1")

    def test_names(self):
        for word, wrong in (("function", ("F", "1", "not", "all", "true", "a_b", "abcdefghijklm", "P")),
                            ("relation", ("p", "1", "P_", "ABCDEFGHIJKLM", "a"))):
            for name in wrong:
                self.alone(["line 1: does not fit", "nothing"], f"{word} {name} 1", "show")
                # The arity is looked at before the name.
                self.alone(["line 1: cannot be done"], f"{word} {name} 4")
        self.alone(["function a", "line 2: does not fit", "line 3: does not fit"], "function a 0", "function a 0",
                   "function a 1")
        self.alone(["relation P", "line 2: does not fit", "function a", "relation R"],
                   "relation P 0", "relation P 2", "function a 0", "relation R 2")

    def test_declarations_that_come_too_late(self):
        for command, lines in [("say p: P(a)", ["said p"]), ("derive p: P(a)", ["p: no"]), ("follows: P(a)", ["no"]),
                               ("drop p", ["line 6: cannot be done"]), ("ask", ["world of 1 thing"]),
                               ("undo", ["nothing to undo"]),
                               ("show", ["nothing"]), ("say p: (", ["line 6: cannot be read at 1, 3"]),
                               ("say P: P(a)", ["line 6: cannot be done"]),
                               ("derive 1: (", ["line 6: cannot be read at 1, 3"]),
                               ("follows: ", ["line 6: cannot be read at 1, 2"]),
                               ("follows:", ["line 6: cannot be read at 1, 1"]),
                               ("derive Q: P(a)", ["line 6: cannot be done"])]:
            self.writes(lines + ["line 7: cannot be done", "line 8: cannot be done"], command, "function c 0",
                        "relation S 3")
            # Whether names can be declared is looked at before the name.
            self.writes(lines + ["line 7: cannot be done"], command, "function a 0")

    def test_lines_after_which_names_can_be_declared(self):
        for command in ("world", "foo", "say", "say p q: P(a)", "follows p: P(a)", "drop", "drop p q", "ask it",
                        "show:", "undo 1",
                        ": P(a)", "function b 7", "relation P", "# ask"):
            lines = [] if command[0] == "#" else ["line 6: cannot be done"]
            self.writes(lines + ["function c", "said p"], command, "function c 0", "say p: P(c)")
        self.writes(["line 6: does not fit", "function c"], "function a 0", "function c 0")
        self.alone(["function c"], "", "   ", "#", "function c 0")

    def test_no_names(self):
        self.alone(["said x", "world of 1 thing", "things 1"], "say x: all x. x = x", "ask", "world")


class Sentences(Desk):
    def test_say(self):
        self.writes(["said p", "said all1", "p: P(a)", "all1: all x. R(x, f(x))"], "say p: P(a)",
                    "say all1: all x. R(x, f(x))", "show")
        self.writes(["line 6: cannot be done", "nothing"], "say all: P(a)", "show")
        self.writes(["said p", "line 7: cannot be done", "p: P(a)"], "say p: P(a)", "say p: Q", "show")

    def test_sentences_that_cannot_be_read(self):
        for text, column in ((" P(b)", 4), ("P(b)", 3), ("", 1), ("   ", 4), (" P(a) and", 10), (" P(a) Q", 7),
                             (" all a. Q", 6), (" !", 2),
                             (" a", 3), (" P(a)) ", 6), (":", 1), (" x = a", 2)):
            for command in ("say p", "derive p", "follows", "say ", "derive P", "say p "):
                if command.split() in (["say"], ["derive"]):
                    self.writes(["line 6: cannot be done"], command + ":" + text)
                else:
                    self.writes([f"line 6: cannot be read at 1, {column}", "nothing"], command + ":" + text, "show")

    def test_the_sentence_is_read_before_the_label_is_checked(self):
        self.writes(["said p", "line 7: cannot be read at 1, 2", "line 8: cannot be read at 1, 2",
                     "line 9: cannot be done"],
                    "say p: Q", "say p: x", "derive NO: x", "derive NO: Q")

    def test_drop(self):
        self.writes(["said p", "dropped p", "line 8: cannot be done", "line 9: cannot be done", "nothing"],
                    "say p: Q", "drop p", "drop p", "drop Q", "show")

    def test_undo(self):
        self.writes(["nothing to undo", "said p", "undone", "nothing to undo", "nothing"], "undo", "say p: Q", "undo",
                    "undo", "show")
        self.writes(["said p", "d: yes", "dropped p", "undone", "p: Q", "d: (Q or P(a)) [from p]", "undone", "p: Q"],
                    "say p: Q", "derive d: Q or P(a)", "drop p", "undo", "show", "undo", "show")

    def test_show(self):
        self.writes(["t: yes", "said p", "said m", "d: yes", "p: P(a)", "m: all x. (P(x) implies R(x, f(x)))",
                     "t: f(a) = f(a) [from ]", "d: R(a, f(a)) [from p, m]"], "derive t: f(a) = f(a)", "say p: P(a)",
                    "say m: all x. P(x) implies R(x, f(x))", "derive d: R(a, f(a))", "show")
        self.writes(["d: yes", "d: (Q or not Q) [from ]"], "derive d: Q or not Q", "show")


class Questions(Desk):
    def test_derive_and_follows(self):
        self.writes(["said p", "d: yes", "e: no", "yes", "no", "no", "p: P(a)", "d: some x. P(x) [from p]"],
                    "say p: P(a)",
                    "derive d: some x. P(x)", "derive e: Q", "follows: not not P(a)", "follows: Q", "follows: not Q",
                    "show")
        # Derived sentences count for what follows.
        self.writes(["said p", "d: yes", "yes", "dropped p", "no"], "say p: P(a)", "derive d: P(a) or Q",
                    "follows: Q or P(a)",
                    "drop p", "follows: Q or P(a)")

    def test_rounds(self):
        endless = ("say one: all x. f(x) != a", "say two: all x. all y. f(x) != f(y) or x = y")
        said = ["said one", "said two"]
        self.writes(said + ["open", "d: open", "open", "line 11: cannot be done"], *endless, "ask", "derive d: P(a)",
                    "follows: Q", "world")
        for rounds in (0, 3, 50):
            self.writes(said + ["open"], *endless, "ask", rounds=rounds)
        chain = ("say one: all x. P(x) implies P(f(x))", "say two: P(a)", "follows: P(f(f(a)))")
        self.writes(said + ["yes"], *chain)
        self.writes(said + ["open"], *chain, rounds=5)
        # A book that has a told size gets no limit.
        self.writes(["said one", "refuted by cases", "yes"], "say one: P(a) and not P(a)", "ask", "follows: Q",
                    rounds=0)
        self.writes(["said one", "said two", "refuted by tree"], "say one: R(a, a)", "say two: all x. not R(x, x)",
                    "ask", rounds=0)

    def test_ask(self):
        self.writes(["world of 1 thing"], "ask")
        self.writes(["said p", "world of 2 things"], "say p: P(a) and some x. not P(x)", "ask")
        self.writes(["said p", "world of 3 things"], "say p: f(f(a)) != f(a) and f(f(a)) != a and f(a) != a", "ask")
        self.writes(["said p", "said q", "refuted by cases"], "say p: Q", "say q: not Q", "ask")
        self.writes(["said p", "said q", "refuted by tree"], "say p: all x. R(x, x)", "say q: not R(a, a)", "ask")

    def test_world(self):
        self.writes(["line 6: cannot be done"], "world")
        self.writes(["said p", "world of 2 things", "things 2", "a = 0", "f = 0 0", "P = yes  no", "R = no no, no no",
                     "Q = yes"],
                    "say p: P(a) and Q and some x. not P(x)", "ask", "world")
        # The last answer, also if the book is another one now, and also an answer without a world.
        self.gives(["relation Q", "said p", "world of 1 thing", "said q", "things 1", "Q = yes", "refuted by cases",
                    "line 7: cannot be done", "dropped q", "line 9: cannot be done", "world of 1 thing", "things 1",
                    "Q = yes"],
                   run, "relation Q 0\nsay p: Q\nask\nsay q: not Q\nworld\nask\nworld\ndrop q\nworld\nask\nworld")

    def test_kept_answers(self):
        self.gives(["relation Q", "said p", "world of 1 thing", "said q", "refuted by cases", "undone",
                    "world of 1 thing"],
                   run, "relation Q 0\nsay p: Q\nask\nsay q: not Q\nask\nundo\nask")


class Failing(Desk):
    def test_a_book_without_a_form(self):
        wide = "all x. all y. all z. all u. some v. R(x, v) and R(y, v) and R(z, v) and R(u, v)"
        lines = run(HEAD + "say w: " + wide + "\nask\nderive d: Q\nfollows: Q\nundo\nask\nworld")[len(DECLARED):]
        self.assertEqual(lines[:6], ["said w", "line 7: does not fit", "line 8: does not fit", "line 9: does not fit",
                                     "undone",
                                     "world of 1 thing"])

    def test_a_failing_ask_keeps_the_last_answer(self):
        wide = "all x. all y. all z. all u. some v. R(x, v) and R(y, v) and R(z, v) and R(u, v) and x != v"
        lines = run("relation R 2\nsay p: some x. some y. x != y and not R(x, x)\nask\nsay w: " + wide + "\nask\nworld")
        self.assertEqual(lines[:5], ["relation R", "said p", "world of 2 things", "said w", "line 5: does not fit"])
        self.assertEqual(lines[5], "things 2")

    def test_a_failing_command_changes_nothing(self):
        commands = ["say p: P(a)", "derive d: some x. P(x)", "ask"]
        wrong = ["say p: Q", "say q: x", "drop z", "derive d: Q", "derive p: P(a)", "derive e: P(b)", "foo",
                 "function g 1", "say Z: Q",
                 "drop", "follows: P(", "ask 1", "undo it", "relation P 1"]
        mixed = commands + wrong + ["show", "world", "undo", "show", "ask"]
        good = commands + ["show", "world", "undo", "show", "ask"]
        lines = [line for line in run(HEAD + "\n".join(mixed)) if not line.startswith("line ")]
        self.assertEqual(len(run(HEAD + "\n".join(mixed))) - len(lines), len(wrong))
        self.assertEqual(lines, run(HEAD + "\n".join(good)))


class Plain:
    """Points 163 and 164 as they stand, over benches and questions."""

    def __init__(self, signature, rounds):
        self.signature, self.bench, self.rounds, self.last = signature, Bench(signature), rounds, None

    def limit(self, book):
        return None if told_size(book) is not None else self.rounds

    def line(self, number, command):
        kind, label, text = command
        try:
            if text is not None:
                sentence = read_sentence(text, self.signature)
                against = self.bench.full_book().with_sentence(("not", sentence))
            if kind == "say":
                self.bench.add(label, sentence)
                return ["said " + label]
            if kind == "derive":
                return [label + ": " + self.bench.derive(label, sentence, self.limit(against))]
            if kind == "follows":
                return [follows(self.bench.full_book(), sentence, self.limit(against))[0]]
            if kind == "drop":
                self.bench.drop(label)
                return ["dropped " + label]
            if kind == "undo":
                return ["undone" if self.bench.undo() else "nothing to undo"]
            if kind == "ask":
                self.last = answer = self.bench.ask(self.limit(self.bench.book()))
                size = answer.world and answer.world.size
                words = {"open": "open", "world": f"world of {size} thing" + "s" * (size != 1)}
                return [words.get(answer.verdict) or "refuted by " + answer.paper[0]]
            if kind == "world":
                return world_text(self.last.world).split("\n") if self.last and self.last.world else [f"line {number}: cannot be done"]
            rows = [(name, self.bench.sentence(name), "") for name in self.bench.labels()]
            rows += [(name, one, " [from " + ", ".join(labels) + "]") for name, one, labels in self.bench.derived()]
            return [f"{name}: {sentence_text(one)}{end}" for name, one, end in rows] or ["nothing"]
        except BadText as error:
            return [f"line {number}: cannot be read at {error.line}, {error.column}"]
        except ValueError:
            return [f"line {number}: cannot be done"]


class Drawn(Desk):
    TEXTS = (" P(a)", "Q", " all x. P(x) implies Q ", "not Q", " some x. not P(x)", " P(", " a = f(a)", " R(a, f(a))",
             "b = a", " Q or P(a)",
             " all x. f(x) != x", " not P(f(a)) ", " all x. some y. R(x, y)")

    def test_as_the_points_stand(self):
        rng = random.Random(16301)
        signature = Signature([("a", 0), ("f", 1)], [("P", 1), ("R", 2), ("Q", 0)])
        seen = {}
        for _ in range(120):
            plain, lines, expected = Plain(signature, 30), [], []
            for number in range(6, 24):
                kind = rng.choice(("say", "say", "say", "derive", "derive", "follows", "drop", "undo", "ask", "ask",
                                   "world", "show"))
                label = rng.choice(("p", "q", "r", "s1", "all", "A", "longlonglonglong")) if kind in ("say", "derive",
                    "drop") else None
                text = rng.choice(self.TEXTS) if kind in ("say", "derive", "follows") else None
                space = rng.choice(("", "", " ", "   "))
                words = space + kind + (" " + space + label if label else "") + space
                lines.append(words + (":" + text if text is not None else ""))
                written = plain.line(number, (kind, label, text))
                expected += written
                seen[written[0].split(":")[-1]] = True
            self.gives(DECLARED + expected, run, HEAD + "\n".join(lines), 30)
        for word in ("undone", "nothing", "nothing to undo", "world of 1 thing", "world of 2 things",
                     "refuted by cases", "refuted by tree",
                     "yes", "no", "said p", "dropped p", " yes", " no", " cannot be done"):
            self.assertIn(word, seen)
