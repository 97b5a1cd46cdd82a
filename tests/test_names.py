import random
import string

from tests.drawing import Case
from worldorpaper.names import fresh_name, is_capital_name, is_small_name

WORDS = ["all", "some", "not", "and", "or", "implies", "iff", "true", "false"]


class Names(Case):
    """Point 2."""

    def test_ordinary(self):
        for name in ["x", "f", "succ", "a1", "xYZ9", "zebra", "a0000000000z"]:
            self.gives(True, is_small_name, name)
            self.gives(False, is_capital_name, name)
        for name in ["P", "Less", "R2", "ABC", "Zz", "All", "TRUE", "Not"]:
            self.gives(False, is_small_name, name)
            self.gives(True, is_capital_name, name)

    def test_lengths(self):
        for length, right in [(0, False), (1, True), (2, True), (11, True), (12, True), (13, False), (30, False)]:
            self.gives(right, is_small_name, "a" * length)
            self.gives(right, is_capital_name, "A" * length)
            self.gives(right, is_small_name, ("a" + "9" * 40)[:length])

    def test_reserved_words(self):
        for word in WORDS:
            self.gives(False, is_small_name, word)
            self.gives(False, is_capital_name, word)
            self.gives(True, is_capital_name, word.capitalize())

    def test_words_nearly_reserved(self):
        near = [word + "1" for word in WORDS] + [word[:-1] for word in WORDS] + [word + word[-1] for word in WORDS]
        for word in near + ["aLL", "implieS", "function", "relation", "sentence", "xor", "if"]:
            self.gives(True, is_small_name, word)

    def test_every_first_and_second_sign(self):
        signs = [chr(code) for code in range(300)] + ["\u0660", "\uff21", "\u03b1"]
        letters_and_digits = string.ascii_letters + string.digits
        for sign in signs:
            self.gives(sign in string.ascii_lowercase, is_small_name, sign)
            self.gives(sign in string.ascii_uppercase, is_capital_name, sign)
            self.gives(sign in letters_and_digits, is_small_name, "q" + sign)
            self.gives(sign in letters_and_digits, is_capital_name, "Q" + sign)
            self.gives(sign in letters_and_digits, is_small_name, "q" + sign + "q")

    def test_fresh_name(self):
        self.gives("x1", fresh_name, "x", [])
        self.gives("x1", fresh_name, "x", ())
        self.gives("x1", fresh_name, "x", ["x", "x0", "x01", "y1", "x2"])
        self.gives("x2", fresh_name, "x", ("x1", "x3"))
        self.gives("x3", fresh_name, "x", ["x2", "x1", "x2"])
        self.gives("w11", fresh_name, "w", ["w" + str(number) for number in range(10, 0, -1)])
        self.gives("12", fresh_name, "1", ["11"])
        self.gives("1", fresh_name, "", ["0"])

    def test_drawn_fresh_names(self):
        rng = random.Random(2)
        for _ in range(200):
            taken = [rng.choice("xyz") + str(rng.randint(0, 12)) for _ in range(rng.randint(0, 30))]
            name = self.call(fresh_name, "x", taken)
            number = int(name[1:])
            self.assertNotIn(name, taken)
            self.assertEqual(name, "x" + str(number))
            self.assertGreaterEqual(number, 1)
            for lower in range(1, number):
                self.assertIn("x" + str(lower), taken)
