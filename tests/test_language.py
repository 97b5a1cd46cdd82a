"""The rules of the language of the package, as far as a look at its syntax can tell."""

import ast
import builtins
import pathlib
import re
import unittest

PACKAGE = pathlib.Path(__file__).resolve().parent.parent / "worldorpaper"
FILES = sorted(PACKAGE.rglob("*.py"))
TREES = {path: ast.parse(path.read_text(encoding="utf-8")) for path in FILES}

BUILTINS = set("""len range enumerate zip min max sum abs sorted reversed int str bool bytes list tuple dict set
frozenset isinstance ord repr any all divmod pow map iter next super property classmethod staticmethod Exception
ValueError TypeError KeyError IndexError LookupError ZeroDivisionError ArithmeticError OverflowError RuntimeError
NotImplementedError AttributeError StopIteration NotImplemented""".split())
METHODS = set("""append clear copy count endswith extend find get index insert isalnum isalpha isdigit islower
isspace isupper items join keys ljust lower lstrip partition pop remove replace reverse rfind rjust rpartition rsplit
rstrip setdefault split splitlines startswith strip update upper values zfill bit_length isascii add discard
__init__""".split())
CHANGING = set("append clear extend insert pop remove reverse setdefault update sort add discard".split())
LIBRARY = {
    "heapq": {"heappush", "heappop", "heapify", "heapreplace", "heappushpop"},
    "math": {"gcd", "lcm", "isqrt", "comb", "perm", "factorial"},
    "itertools": {"product", "combinations", "permutations", "chain", "accumulate", "pairwise", "islice", "zip_longest"},
    "collections": {"defaultdict"},
}
STATEMENTS = (ast.Assign, ast.AugAssign, ast.AnnAssign, ast.If, ast.While, ast.For, ast.Return, ast.Break,
              ast.Continue, ast.Pass, ast.Raise, ast.Assert, ast.Delete, ast.Nonlocal, ast.Match, ast.With, ast.Try,
              ast.Expr, ast.FunctionDef, ast.ClassDef, ast.ImportFrom)
DUNDERS = {"__init__", "__eq__", "__repr__", "__str__", "__len__", "__enter__", "__exit__", "__call__", "__iter__"}
BARRED_WORDS = set("""type typing typing_extensions enum Enum IntEnum StrEnum Flag IntFlag Generic Protocol ABC ABCMeta
namedtuple NamedTuple TypedDict TYPE_CHECKING abstractmethod""".split())
BARRED_NAMES = set("""register mro elements open input law version_info with_traceback add_note attrgetter breakpoint
builtins compile copyright credits delattr dir eval exec exit gc globals help id importlib license locals methodcaller
os quit type vars sys""".split())


def nodes(kind):
    for path, tree in TREES.items():
        for node in ast.walk(tree):
            if isinstance(node, kind):
                yield path, node


def imported(tree):
    return [node for node in tree.body if isinstance(node, ast.ImportFrom)]


def bound_names(tree):
    """Every name that a file gives to something, with the node that gives it."""
    for node in ast.walk(tree):
        if isinstance(node, (ast.FunctionDef, ast.ClassDef)):
            yield node.name, node
        elif isinstance(node, ast.arg):
            yield node.arg, node
        elif isinstance(node, ast.Name) and isinstance(node.ctx, ast.Store):
            yield node.id, node
        elif isinstance(node, ast.ExceptHandler) and node.name:
            yield node.name, node


def walked_names(node):
    """The names and attributes that a loop over this walks."""
    if isinstance(node, ast.Call):
        holder = [node.func.value] if isinstance(node.func, ast.Attribute) else []
        # A new list is walked in their stead.
        if getattr(node.func, "id", "") in ("list", "tuple", "sorted"):
            return set()
        return set().union(*[walked_names(part) for part in node.args + holder])
    if isinstance(node, ast.IfExp):
        return walked_names(node.body) | walked_names(node.orelse)
    if isinstance(node, ast.BoolOp):
        return set().union(*[walked_names(part) for part in node.values])
    return {ast.unparse(node)} if isinstance(node, (ast.Name, ast.Attribute, ast.Subscript)) else set()


def changed_names(node):
    """The names and attributes whose items a statement changes."""
    found = set()
    for part in ast.walk(node):
        if isinstance(part, ast.Call) and isinstance(part.func, ast.Attribute) and part.func.attr in CHANGING:
            found.add(ast.unparse(part.func.value))
        elif isinstance(part, ast.Subscript) and not isinstance(part.ctx, ast.Load):
            found.add(ast.unparse(part.value))
        elif isinstance(part, ast.AugAssign):
            found.add(ast.unparse(part.target))
    return found


class Language(unittest.TestCase):
    def at(self, path, node):
        return f"{path.name}, line {node.lineno}"

    def test_files(self):
        for path in PACKAGE.rglob("*"):
            if "__pycache__" not in path.parts:
                self.assertTrue(path.is_dir() or re.fullmatch(r"[a-z0-9_]+\.py", path.name), path)
        for path in FILES:
            text = path.read_text(encoding="utf-8")
            self.assertRegex(text, r"\A[ -~\n]*\Z", path)
            lines = text.split("\n")
            self.assertLessEqual(len(lines) - 1, 399, path)
            self.assertLessEqual(max(len(line) for line in lines), 120, path)

    def test_functions_are_short(self):
        for path, node in nodes(ast.FunctionDef):
            self.assertLessEqual(node.end_lineno - node.lineno + 1, 40, self.at(path, node))

    def test_statements(self):
        for path, node in nodes(ast.stmt):
            self.assertIsInstance(node, STATEMENTS, self.at(path, node))
            if isinstance(node, ast.Expr):
                plain = isinstance(node.value, (ast.Call, ast.Yield, ast.YieldFrom))
                text = isinstance(node.value, ast.Constant) and isinstance(node.value.value, str)
                self.assertTrue(plain or text, self.at(path, node))

    def test_module_level(self):
        for path, tree in TREES.items():
            names = []
            for place, node in enumerate(tree.body):
                if isinstance(node, ast.Expr):
                    self.assertEqual(place, 0, self.at(path, node))
                elif isinstance(node, ast.Assign):
                    self.assertIsInstance(node.targets[0], ast.Name)
                    table = isinstance(node.value, ast.Dict) and {value.id for value in node.value.values
                                                                  if isinstance(value, ast.Name)}
                    if table:
                        self.assertLessEqual(table, {other.name for other in tree.body[:place]
                                                     if isinstance(other, ast.FunctionDef)}, self.at(path, node))
                    else:
                        ast.literal_eval(node.value)
                    names.append(node.targets[0].id)
                elif isinstance(node, ast.ImportFrom):
                    self.assertTrue(all(isinstance(other, (ast.ImportFrom, ast.Expr)) for other in tree.body[:place]))
                    names += [alias.name for alias in node.names]
                else:
                    self.assertIsInstance(node, (ast.FunctionDef, ast.ClassDef), self.at(path, node))
                    names.append(node.name)
            self.assertEqual(len(names), len(set(names)), path)

    def test_imports(self):
        for path, tree in TREES.items():
            for node in imported(tree):
                where = self.at(path, node)
                self.assertEqual((node.level, [alias.asname for alias in node.names]), (0, [None] * len(node.names)), where)
                names = {alias.name for alias in node.names}
                if node.module in LIBRARY:
                    self.assertLessEqual(names, LIBRARY[node.module], where)
                    continue
                source = PACKAGE / (node.module.removeprefix("worldorpaper.") + ".py")
                self.assertIn(source, TREES, where)
                defined = {other.name for other in TREES[source].body if hasattr(other, "name")}
                defined |= {other.targets[0].id for other in TREES[source].body if isinstance(other, ast.Assign)}
                self.assertLessEqual(names, defined, where)
        self.assertEqual(len(list(nodes(ast.ImportFrom))), sum(len(imported(tree)) for tree in TREES.values()))

    def test_imports_go_one_way(self):
        needs = {path.stem: [node.module.split(".")[1] for node in imported(tree) if node.module not in LIBRARY]
                 for path, tree in TREES.items()}

        def walk(name, above):
            self.assertNotIn(name, above)
            for other in needs[name]:
                walk(other, above + [name])

        for name in needs:
            walk(name, [])

    def test_imports_are_used(self):
        for path, tree in TREES.items():
            used = {node.id for node in ast.walk(tree) if isinstance(node, ast.Name)}
            for node in imported(tree):
                for alias in node.names:
                    self.assertIn(alias.name, used, path)

    def test_names(self):
        for path, tree in TREES.items():
            barred = set(dir(builtins)) | BARRED_NAMES
            above = {alias.name for node in imported(tree) for alias in node.names}
            above |= {node.name for node in tree.body if isinstance(node, ast.ClassDef)}
            methods = {node for owner in ast.walk(tree) if isinstance(owner, ast.ClassDef) for node in owner.body}
            for name, node in bound_names(tree):
                if node not in methods:
                    self.assertNotIn(name, barred, self.at(path, node))
                if not isinstance(node, ast.ClassDef):
                    self.assertNotIn(name, above, self.at(path, node))
                if name not in DUNDERS:
                    self.assertRegex(name, r"\A_?[A-Za-z][A-Za-z0-9_]*\Z|\A_\Z", self.at(path, node))

    def test_builtins_that_are_used(self):
        for path, node in nodes(ast.Name):
            if node.id in dir(builtins):
                self.assertIn(node.id, BUILTINS, self.at(path, node))

    def test_methods_that_are_called(self):
        own = {node.name for _, owner in nodes(ast.ClassDef) for node in owner.body if isinstance(node, ast.FunctionDef)}
        for path, node in nodes(ast.Call):
            if isinstance(node.func, ast.Attribute):
                self.assertIn(node.func.attr, METHODS | own, self.at(path, node))
            for star in node.args:
                if isinstance(star, ast.Starred):
                    self.assertIsInstance(star.value, ast.Name, self.at(path, node))

    def test_ranges_and_views_stand_where_they_may(self):
        spot = ("list", "tuple", "dict", "sorted", "sum", "any", "all", "enumerate", "zip", "min", "max", "len", "reversed",
                "permutations", "combinations", "product")
        for path, tree in TREES.items():
            above = {child: node for node in ast.walk(tree) for child in ast.iter_child_nodes(node)}
            for node in ast.walk(tree):
                if not isinstance(node, ast.Call):
                    continue
                word = node.func.id if isinstance(node.func, ast.Name) else getattr(node.func, "attr", "")
                if word not in ("range", "zip", "enumerate", "reversed", "items", "keys", "values"):
                    continue
                holder = above[node]
                where = self.at(path, node)
                if isinstance(holder, (ast.For, ast.comprehension)):
                    self.assertIs(holder.iter, node, where)
                elif isinstance(holder, ast.Compare):
                    self.assertTrue(isinstance(holder.ops[0], (ast.In, ast.NotIn)) and word in ("range", "keys"), where)
                elif isinstance(holder, ast.Attribute) or isinstance(holder, ast.Call) and holder.func is node:
                    self.fail(where)
                elif isinstance(holder, ast.Call) and isinstance(holder.func, ast.Name) and holder.func.id == "iter":
                    self.assertEqual(word, "items", where)
                else:
                    self.assertIsInstance(holder, ast.Call, where)
                    self.assertIn(holder.func.id, spot, where)
                    if holder.func.id in ("min", "max"):
                        self.assertTrue(all(keyword.arg == "default" for keyword in holder.keywords), where)

    def test_loops_change_nothing_that_they_walk(self):
        # A name that is given to another one counts as the same list, wherever in the function that stands.
        for path, function in nodes(ast.FunctionDef):
            same = [{ast.unparse(node.targets[0]), ast.unparse(node.value)} for node in ast.walk(function)
                    if isinstance(node, ast.Assign) and isinstance(node.value, (ast.Name, ast.Attribute))]
            for loop in ast.walk(function):
                if isinstance(loop, ast.For):
                    walked = walked_names(loop.iter)
                    for _ in same:
                        for pair in same:
                            walked |= pair if pair & walked else set()
                    for node in loop.body:
                        self.assertFalse(walked & changed_names(node), self.at(path, loop))

    def test_set_methods(self):
        # A class has a method `add`, so no set is added to by that word.
        for path, function in nodes(ast.FunctionDef):
            stored = {node.targets[0].id for node in ast.walk(function) if isinstance(node, ast.Assign)
                      and isinstance(node.targets[0], ast.Name) and ast.unparse(node.value).startswith(("set(", "{"))
                      and not isinstance(node.value, (ast.Dict, ast.DictComp))}
            for node in ast.walk(function):
                if isinstance(node, ast.Attribute) and node.attr in ("add", "discard"):
                    self.assertNotIn(getattr(node.value, "id", ""), stored, self.at(path, node))

    def test_attributes(self):
        assigned = {node.attr for _, node in nodes(ast.Attribute) if isinstance(node.ctx, ast.Store)}
        methods = {}
        for _, owner in nodes(ast.ClassDef):
            names = [node.name for node in owner.body if isinstance(node, ast.FunctionDef)]
            self.assertEqual(len(names), len(set(names)), owner.name)
            stored = {node.attr for node in ast.walk(owner)
                      if isinstance(node, ast.Attribute) and isinstance(node.ctx, ast.Store)}
            self.assertFalse(stored & set(names), owner.name)
            methods.update({name: owner.name for name in names})
            values = {node.targets[0].id for node in owner.body if isinstance(node, ast.Assign)}
            self.assertFalse(values & (stored | set(names)), owner.name)
            assigned |= values
        for path, node in nodes(ast.Attribute):
            self.assertIn(node.attr, assigned | set(methods) | METHODS, self.at(path, node))
        # A name that is an attribute of one class and a method of another one.
        for _, owner in nodes(ast.ClassDef):
            for node in owner.body:
                if isinstance(node, ast.FunctionDef) and node.name in assigned:
                    self.assertFalse(node.decorator_list, node.name)
                    self.assertFalse([part for part in ast.walk(node) if isinstance(part, (ast.Yield, ast.YieldFrom))])
        owners = {owner.name for _, owner in nodes(ast.ClassDef)}
        for path, node in nodes(ast.Attribute):
            if isinstance(node.value, ast.Name) and node.value.id in owners:
                self.assertNotIn(node.attr, methods, self.at(path, node))

    def test_classes(self):
        for path, owner in nodes(ast.ClassDef):
            self.assertFalse(owner.decorator_list, self.at(path, owner))
            for node in owner.body:
                if isinstance(node, ast.FunctionDef) and node.name.startswith("__"):
                    self.assertIn(node.name, DUNDERS, self.at(path, node))
        for path, node in nodes(ast.FunctionDef):
            for decorator in node.decorator_list:
                self.assertRegex(ast.unparse(decorator), r"\A(property|classmethod|staticmethod|\w+\.setter)\Z")

    def test_expressions(self):
        barred = (ast.Await, ast.Div, ast.MatMult)
        for path, node in nodes(barred):
            self.fail(self.at(path, node))
        for path, node in nodes(ast.BinOp):
            if isinstance(node.op, ast.Pow):
                self.assertIsInstance(node.right, ast.Constant, self.at(path, node))
        for path, node in nodes(ast.Compare):
            for op, right in zip(node.ops, node.comparators):
                if isinstance(op, (ast.Is, ast.IsNot)):
                    self.assertTrue(isinstance(right, ast.Constant) and right.value in (None, True, False))
        for path, node in nodes(ast.Constant):
            self.assertNotIsInstance(node.value, (float, complex), self.at(path, node))
            if isinstance(node.value, str):
                self.assertNotIn("%", node.value, self.at(path, node))
                self.assertNotRegex(node.value, r"\._+\Z|\A__.*__\Z")

    def test_generator_expressions_stand_in_calls(self):
        inside = [node.args[0] for _, node in nodes(ast.Call) if node.args and isinstance(node.func, ast.Name)
                  and node.func.id in ("list", "tuple", "dict", "sorted", "sum", "min", "max", "any", "all")]
        for path, node in nodes(ast.GeneratorExp):
            self.assertIn(node, inside, self.at(path, node))

    def test_errors(self):
        for path, node in nodes(ast.ExceptHandler):
            self.assertIsNotNone(node.type, self.at(path, node))
            kinds = node.type.elts if isinstance(node.type, ast.Tuple) else [node.type]
            for kind in kinds:
                self.assertRegex(kind.id, r"\A(Bad\w+|UnknownName|NotOfKind|WorldOrPaperError|KeyError|ZeroDivisionError)\Z")
        for path, node in nodes(ast.Raise):
            self.assertTrue(node.exc is None or isinstance(node.exc, ast.Call), self.at(path, node))

    def test_words(self):
        for path, tree in TREES.items():
            words = {node.id for node in ast.walk(tree) if isinstance(node, ast.Name)}
            words |= {node.attr for node in ast.walk(tree) if isinstance(node, ast.Attribute)}
            words |= {node.arg for node in ast.walk(tree) if isinstance(node, (ast.arg, ast.keyword))}
            self.assertFalse(words & (BARRED_WORDS | BARRED_NAMES), path)
