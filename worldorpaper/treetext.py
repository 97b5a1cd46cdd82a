"""Texts of trees of cases, and reading them."""

from worldorpaper.errors import BadText
from worldorpaper.names import LONGEST
from worldorpaper.trees import BEYOND, children_of

INDENT = "  "
MOST_DIGITS = 6


def tree_text(tree):
    """The text of a tree."""
    return "\n".join(_lines_of(tree, ""))


def read_tree(text):
    """The tree of a text; raises BadText at the first sign up to which no text of a tree goes."""
    reader = TreeReader(text)
    reader.node()
    while not reader.is_at_end():
        reader.new_line()
        reader.node()
    return reader.whole()


class TreeReader:
    """Goes through a text sign by sign and puts the nodes together."""

    def __init__(self, text):
        self.text = text
        self.at = 0
        # From the root down to the node above the next one: rows of a name, things and the children so far.
        self.above = []
        self.root = None

    def is_at_end(self):
        """Tells whether all signs are read."""
        return self.at == len(self.text)

    def node(self):
        """Reads a node up to the end of its line."""
        if self.sign() == "c":
            self.signs("cell ")
            name = self.name()
            self.above.append((name, self.numbers(), []))
        elif self.sign() == "f":
            self.signs("false ")
            index = self.number()
            self.put(("false", index, self.numbers()))
        else:
            self.signs("beyond")
            self.put(BEYOND)

    def new_line(self):
        """Reads a line feed and the indentation of the line that it begins."""
        # A leaf without a node above it is the whole tree.
        self.take(self.sign() == "\n" and len(self.above) > 0)
        self.signs(INDENT)
        depth = 1
        while self.sign() == " " and depth < len(self.above):
            self.signs(INDENT)
            depth += 1
        self.close(depth)

    def whole(self):
        """The tree of all nodes that were read."""
        self.close(0)
        return self.root

    def sign(self):
        """The present sign, or an empty string behind the last one."""
        return self.text[self.at:self.at + 1]

    def take(self, accepted):
        """Goes on behind the present sign and returns it, if it is accepted."""
        if not accepted:
            before = self.text[:self.at]
            raise BadText(before.count("\n") + 1, self.at - before.rfind("\n"))
        self.at += 1
        return self.text[self.at - 1]

    def signs(self, expected):
        """Goes on behind the signs that must stand here."""
        for sign in expected:
            self.take(self.sign() == sign)

    def name(self):
        """Reads a name."""
        found = self.take(_is_letter(self.sign()))
        while len(found) < LONGEST and (_is_letter(self.sign()) or _is_digit(self.sign())):
            found += self.take(True)
        return found

    def numbers(self):
        """Reads numbers, each with a space before it, as long as there are spaces."""
        found = []
        while self.sign() == " ":
            self.take(True)
            found.append(self.number())
        return tuple(found)

    def number(self):
        """Reads a number without leading zeros."""
        digits = self.take(_is_digit(self.sign()))
        while digits != "0" and len(digits) < MOST_DIGITS and _is_digit(self.sign()):
            digits += self.take(True)
        return int(digits)

    def put(self, tree):
        """Puts a tree under the node above it."""
        if len(self.above) == 0:
            self.root = tree
        else:
            self.above[-1][2].append(tree)

    def close(self, depth):
        """Ends the nodes that are at least so deep."""
        while len(self.above) > depth:
            name, things, children = self.above.pop()
            self.put(("cell", name, things, tuple(children)))


def _lines_of(tree, indentation):
    lines = [indentation + " ".join(_words_of(tree))]
    for child in children_of(tree):
        lines.extend(_lines_of(child, indentation + INDENT))
    return lines


def _words_of(tree):
    if tree == BEYOND:
        return ["beyond"]
    numbers = tree[2] if tree[0] == "cell" else (tree[1],) + tree[2]
    named = [tree[0], tree[1]] if tree[0] == "cell" else [tree[0]]
    return named + [str(number) for number in numbers]


def _is_letter(sign):
    return "a" <= sign <= "z" or "A" <= sign <= "Z"


def _is_digit(sign):
    return "0" <= sign <= "9"
