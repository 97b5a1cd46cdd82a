import contextlib
import io
import pathlib
import re
import unittest

README = pathlib.Path(__file__).resolve().parent.parent / "README.md"


class Readme(unittest.TestCase):
    def test_examples_run(self):
        blocks = re.findall(r"```(\w*)\n(.*?)```", README.read_text(encoding="utf-8"), re.S)
        printed = []
        for language, block in blocks:
            if language == "python":
                with contextlib.redirect_stdout(io.StringIO()) as out:
                    exec(block, {})
                printed.append(out.getvalue())
        self.assertEqual(printed, [blocks[1][1], "True\n", "R(x1, w1(x1)) or not P(x1)\n",
                                   "None (0,) [('a',), ('b',)]\n"])
