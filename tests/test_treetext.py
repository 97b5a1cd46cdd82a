import itertools
import random
import re

from tests.drawing import Case
from worldorpaper.treetext import read_tree, tree_text

BEYOND = ("beyond",)
TREE = ("cell", "b", (), (("false", 0, ()), ("false", 1, (0, 1))))
NUMBER = "(?:0|[1-9][0-9]{0,5})"
LINE = re.compile(f"( *)(?:beyond|false {NUMBER}(?: {NUMBER})*|(cell) [A-Za-z][A-Za-z0-9]{{0,11}}(?: {NUMBER})*)")
# Every text that some text of a tree begins with becomes one by one of these.
ENDS = ["", "0", "a", " 0", "  beyond", " beyond", "beyond"]
ENDS += [word[at:] for word in ("beyond", "false 0", "cell a") for at in range(1, len(word))]


def is_text(text):
    """Points 105 and 106 as they stand: lines of the right form, each indented as a node below the ones before."""
    deepest = 0
    for number, line in enumerate(text.split("\n")):
        found = LINE.fullmatch(line)
        if found is None or len(found.group(1)) % 2:
            return False
        depth = len(found.group(1)) // 2
        if (depth == 0) != (number == 0) or depth > deepest:
            return False
        deepest = depth + 1 if found.group(2) else depth
    return True


def goes_on(text):
    return any(is_text(text + end) for end in ENDS)


def fault(text):
    """Point 107 as it stands, or None for the text of a tree."""
    at = next((at for at in range(len(text)) if not goes_on(text[:at + 1])), None)
    if at is None:
        if is_text(text):
            return None
        at = len(text)
    lines = text[:at].split("\n")
    return len(lines), len(lines[-1]) + 1


def draw_tree(rng, depth):
    numbers = (0, 1, 7, 10, 123, 999999, 1000, 90)
    things = tuple(rng.choice(numbers) for _ in range(rng.choice((0, 0, 1, 2, 4))))
    kind = rng.randrange(6)
    if kind == 0:
        return BEYOND
    if kind < 3 or depth == 0:
        return ("false", rng.choice(numbers), things)
    name = rng.choice(("a", "P", "beyond", "cell", "false", "Z9", "abcdefghijkl", "x0"))
    return ("cell", name, things, tuple(draw_tree(rng, depth - 1) for _ in range(rng.choice((0, 1, 2, 2, 3)))))


class Writing(Case):
    """Point 105."""

    def test_written_out(self):
        self.gives("cell b\n  false 0\n  false 1 0 1", tree_text, TREE)
        self.gives("beyond", tree_text, BEYOND)
        self.gives("false 12", tree_text, ("false", 12, ()))
        self.gives("false 0 0 10 3", tree_text, ("false", 0, (0, 10, 3)))
        self.gives("cell f", tree_text, ("cell", "f", (), ()))
        tree = ("cell", "Ab1", (3, 40), (BEYOND, TREE, ("cell", "c", (0,), (TREE,)), ("false", 2, (5,))))
        self.gives("cell Ab1 3 40\n  beyond\n  cell b\n    false 0\n    false 1 0 1\n  cell c 0\n    cell b\n"
                   "      false 0\n      false 1 0 1\n  false 2 5", tree_text, tree)


class Reading(Case):
    """Points 106 and 107."""

    def test_there_and_back(self):
        rng = random.Random(10601)
        for _ in range(300):
            tree = draw_tree(rng, 4)
            text = tree_text(tree)
            self.assertTrue(is_text(text))
            self.gives(tree, read_tree, text)
            self.assertEqual(tree_text(read_tree(text)), text)

    def test_sixty_nodes_on_the_way(self):
        tree = BEYOND
        for _ in range(70):
            tree = ("cell", "f", (0,), (tree, ("false", 0, ())))
        self.gives(tree, read_tree, tree_text(tree))

    def test_faults(self):
        for text, line, column in [
                ("cell f 00", 1, 9), ("", 1, 1), ("\n", 1, 1), (" ", 1, 1), (" beyond", 1, 1), ("Beyond", 1, 1),
                ("beyond\n", 1, 7), ("beyond ", 1, 7), ("beyondx", 1, 7), ("bey", 1, 4), ("beyonf", 1, 6),
                ("false", 1, 6),
                ("false ", 1, 7), ("false  0", 1, 7), ("false a", 1, 7), ("false 0 ", 1, 9), ("false 0  1", 1, 9),
                ("false 0\n", 1, 8), ("false 0\n  beyond", 1, 8), ("false -1", 1, 7), ("false 1234567", 1, 13),
                ("false 123456 1234567", 1, 20), ("false 01", 1, 8), ("false0", 1, 6), ("cell", 1, 5), ("cell ", 1, 6),
                ("cell 1", 1, 6), ("cell _", 1, 6), ("cell a_", 1, 7), ("cell a ", 1, 8), ("cell a x", 1, 8),
                ("cell abcdefghijklm", 1, 18), ("cell a\n", 2, 1), ("cell a\n ", 2, 2), ("cell a\n  ", 2, 3),
                ("cell a\nbeyond", 2, 1), ("cell a\n beyond", 2, 2), ("cell a\n   beyond", 2, 3),
                ("cell a\n    beyond", 2, 3),
                ("cell a\n\n", 2, 1), ("cell a\n  beyond\n", 3, 1), ("cell a\n  beyond\n    beyond", 3, 3),
                ("cell a\n  beyond\nbeyond", 3, 1), ("cell a\n  beyond\n  false 0 00", 3, 12),
                ("cell a\n  cell b\n    beyond\n   beyond", 4, 4), ("cell a\n  cell b\n    beyond\n      beyond", 4, 5),
                ("cell a\n  beyond \n  beyond", 2, 9), ("cell a\t", 1, 7), ("cell a\r\n  beyond", 1, 7),
                ("cell a 0\n  beyond", None, None), ("cell a\n  cell b\n  beyond", None, None)]:
            if line is None:
                self.assertEqual(tree_text(self.call(read_tree, text)), text)
            else:
                self.fails_at(line, column, read_tree, text)
            self.assertEqual(fault(text), None if line is None else (line, column), text)

    def test_signs_of_names_and_numbers(self):
        for name in ("a", "z", "A", "Z", "az09AZ", "Zz9", "m5M", "A0"):
            self.gives(("cell", name, (9, 10, 90), ()), read_tree, f"cell {name} 9 10 90")
        for sign in "`{@[/:~!-.":
            self.fails_at(1, 6, read_tree, "cell " + sign)
            self.fails_at(1, 7, read_tree, "cell a" + sign)
            self.fails_at(1, 8, read_tree, "cell a " + sign)
            self.fails_at(1, 9, read_tree, "cell a 1" + sign)

    def test_every_short_text(self):
        for words in itertools.product(("cell a", "beyond", "false 0", "\n", "  ", " ", "0"), repeat=4):
            self.check("".join(words))

    def test_changed_texts(self):
        rng = random.Random(10701)
        wrong = 0
        for _ in range(700):
            text = tree_text(draw_tree(rng, 3))
            for _ in range(rng.randint(1, 2)):
                at = rng.randint(0, len(text))
                text = text[:at] + rng.choice(("", " ", "  ", "\n", "0", "7", "a", "X", "\n  ", "-",
                                               "!")) + text[at + rng.randint(0, 2):]
            wrong += not is_text(text)
            self.check(text)
        self.assertGreater(wrong, 400)

    def test_cut_texts(self):
        rng = random.Random(10702)
        for _ in range(20):
            text = tree_text(draw_tree(rng, 2))
            for at in range(len(text)):
                self.check(text[:at])

    def check(self, text):
        expected = fault(text)
        if expected is None:
            self.assertEqual(tree_text(self.call(read_tree, text)), text)
        else:
            self.fails_at(*expected, read_tree, text)
