import random
import string

from tests.drawing import Case
from worldorpaper.scanning import scan

MARKS = ["(", ")", ",", ".", "=", "!="]
SIGNS = string.ascii_letters + string.digits


class Words(Case):
    """Point 17."""

    def test_ordinary(self):
        self.gives([("all", 1, 1), ("x", 1, 5), (".", 1, 6), ("P", 1, 8), ("(", 1, 9), ("x", 1, 10), (",", 1, 11),
                    ("a1", 1, 13), (")", 1, 15)], scan, "all x. P(x, a1)")
        self.gives([("x", 1, 1), ("!=", 1, 2), ("y", 1, 4), ("=", 1, 5), ("z", 1, 6)], scan, "x!=y=z")
        self.gives([], scan, "")
        self.gives([], scan, " ")
        self.gives([], scan, " \n\n  \n")

    def test_lines_and_columns(self):
        self.gives([("a", 1, 3), ("b", 2, 1), ("c", 4, 2), ("(", 4, 3)], scan, "  a\nb \n\n c(\n")
        self.gives([("a", 3, 1)], scan, "\n\na")
        self.gives([("a", 1, 1), ("b", 2, 1)], scan, "a\nb")

    def test_longest_words(self):
        self.gives([("notP", 1, 1)], scan, "notP")
        self.gives([("x1y2Z", 1, 1), ("x", 1, 7)], scan, "x1y2Z x")
        self.gives([("x" * 50, 1, 1)], scan, "x" * 50)
        self.gives([("007", 1, 1), ("9a", 1, 5)], scan, "007 9a")

    def test_marks_side_by_side(self):
        self.gives([("!=", 1, 1), ("=", 1, 3)], scan, "!==")
        self.gives([("=", 1, 1), ("!=", 1, 2)], scan, "=!=")
        self.gives([("(", 1, 1), ("(", 1, 2), (")", 1, 3), (".", 1, 4), (",", 1, 5)], scan, "(().,")
        self.gives([("=", 1, 1), ("=", 1, 2)], scan, "==")
        for mark in MARKS:
            self.gives([("a", 1, 1), (mark, 1, 2), ("b", 1, 2 + len(mark))], scan, "a" + mark + "b")

    def test_exclamation_mark_alone(self):
        for text, line, column in [("!", 1, 1), ("a !", 1, 3), ("! =", 1, 1), ("a!\n=b", 1, 2), ("!!=", 1, 1),
                                   ("a\n !b", 2, 2), ("!=!", 1, 3), ("!a=", 1, 1), ("a !(", 1, 3)]:
            self.fails_at(line, column, scan, text)

    def test_strange_signs(self):
        strange = [chr(code) for code in range(128) if chr(code) not in SIGNS + "(),.= \n"]
        self.assertEqual(len(strange), 128 - 62 - 7)
        for sign in strange:
            self.fails_at(1, 1, scan, sign)
            self.fails_at(1, 4, scan, "a b" + sign)
            self.fails_at(1, 2, scan, "a" + sign + "b")
            self.fails_at(3, 2, scan, "a\n\n " + sign + "\n" + sign)
            self.fails_at(2, 1, scan, "aa\n" + sign + " (")
        for sign in ["\u00e9", "\u0661", "\u2028", "\u00a0", "\u0085"]:
            self.fails_at(1, 2, scan, "a" + sign)

    def test_drawn(self):
        rng = random.Random(17)
        for _ in range(300):
            text, expected, line, column = "", [], 1, 1
            before = ""
            for _ in range(rng.randint(0, 15)):
                word = rng.choice(MARKS + ["".join(rng.choices(SIGNS, k=rng.randint(1, 5)))])
                least = 1 if before.isalnum() and word.isalnum() else 0
                for gap in [rng.choice(" \n") for _ in range(rng.randint(least, 3))]:
                    text += gap
                    line, column = (line + 1, 1) if gap == "\n" else (line, column + 1)
                expected.append((word, line, column))
                text += word
                column += len(word)
                before = word
            tail = "".join(rng.choices(" \n", k=rng.randint(0, 2)))
            self.gives(expected, scan, text + tail)
            self.gives([word for word, _, _ in expected], lambda: [word for word, _, _ in scan(text)])
            self.fails_at(line, column, scan, text + rng.choice("#$!\t~") + tail)

    def test_results_are_new(self):
        scan("a b").clear()
        self.assertEqual(len(scan("a b")), 2)
