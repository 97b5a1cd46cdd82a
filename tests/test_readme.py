import contextlib
import io
import pathlib
import re
import unittest

README = pathlib.Path(__file__).resolve().parent.parent / "README.md"


class Readme(unittest.TestCase):
    def test_examples_run(self):
        parts = re.split(r"```(\w*)\n(.*?)```", README.read_text(encoding="utf-8"), flags=re.S)
        examples = 0
        for at in range(1, len(parts), 3):
            if parts[at] == "python":
                block = parts[at + 1]
                # What an example prints stands in the block behind it or in a comment.
                expected = re.findall(r"print\(.*\)  # (.*)", block)
                if parts[at + 2].strip() == "prints":
                    expected = parts[at + 4].rstrip("\n").split("\n")
                with contextlib.redirect_stdout(io.StringIO()) as out:
                    exec(block, {})
                self.assertEqual(out.getvalue().rstrip("\n").split("\n"), expected)
                examples += 1
        self.assertEqual(examples, 7)

    def test_every_module_is_named(self):
        text = README.read_text(encoding="utf-8")
        for path in (README.parent / "worldorpaper").glob("*.py"):
            if path.stem != "__init__":
                self.assertIn(f"`{path.stem}`", text)
