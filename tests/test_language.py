"""The package's files keep to the small part of Python: the rules that can be read off a file.

Where a rule allows a form only in narrow places (sets, try, keywords of Python's own), these tests let by less than
the rule does: widen them when the program needs the form.
"""

import ast
import io
import pathlib
import re
import tokenize
import unittest

PACKAGE = pathlib.Path(__file__).resolve().parent.parent / "manyleaves"
BUILTINS = set("""
    len range enumerate zip min max sum abs sorted reversed int str bool bytes list tuple dict isinstance ord repr any
    all divmod ValueError KeyError IndexError ZeroDivisionError Exception
""".split())
METHODS = set("""
    append clear copy count endswith extend find get index insert isalnum isalpha isdigit islower isspace isupper
    items join keys ljust lower lstrip partition pop remove replace reverse rfind rjust rpartition rsplit rstrip
    setdefault split splitlines startswith strip update upper values zfill bit_length
""".split())
DUNDERS = {"__init__", "__eq__", "__repr__", "__str__", "__len__"}
BARRED_NAMES = set("""
    register mro elements open input version_info with_traceback add_note attrgetter breakpoint builtins compile
    copyright credits delattr dir eval exec exit gc getattr globals hasattr help id importlib license locals
    methodcaller os quit setattr super vars sys hash next map round iter filter format object float chr set frozenset
    print slice bin hex pow callable property
""".split())
BARRED_WORDS = """
    type typing typing_extensions enum Enum IntEnum StrEnum Flag IntFlag Generic Protocol ABC ABCMeta namedtuple
    NamedTuple TypedDict TYPE_CHECKING abstractmethod
""".split()
BARRED_PARTS = ("dataclass", "overload", "contextmanager")
BARRED_NODES = (
    ast.With, ast.Match, ast.Global, ast.Nonlocal, ast.Yield, ast.YieldFrom, ast.Await, ast.AsyncFor, ast.AsyncWith,
    ast.AsyncFunctionDef, ast.GeneratorExp, ast.NamedExpr, ast.Div, ast.MatMult, ast.Import, ast.Set, ast.SetComp,
)
TOP_NODES = (ast.ImportFrom, ast.FunctionDef, ast.ClassDef, ast.Assign)


class Language(unittest.TestCase):

    @classmethod
    def setUpClass(cls):
        cls.texts = {path.name: path.read_text("utf-8") for path in sorted(PACKAGE.glob("*.py"))}
        cls.trees = {name: ast.parse(text) for name, text in cls.texts.items()}

    def nodes(self, *kinds):
        for name, tree in self.trees.items():
            for node in ast.walk(tree):
                if isinstance(node, kinds):
                    yield f"{name}:{getattr(node, 'lineno', 0)}", node

    def test_files(self):
        for path in PACKAGE.rglob("*"):
            if "__pycache__" not in path.parts:
                self.assertRegex(path.name, r"^([a-z][a-z0-9_]*|__init__|__main__)\.py$")
        self.assertIn("__init__.py", self.texts)
        self.assertLessEqual(len(self.texts), 100)

    def test_sizes_and_signs(self):
        for name, text in self.texts.items():
            self.assertRegex(text, r"\A[ -~\n]*\Z", name)
            self.assertLessEqual(len(text.splitlines()), 400, name)
            self.assertLessEqual(max(map(len, text.splitlines())), 120, name)
        for at, node in self.nodes(ast.FunctionDef):
            self.assertLessEqual(node.end_lineno - node.lineno + 1, 40, at)

    def test_words(self):
        for name, text in self.texts.items():
            for word in re.findall(r"\w+", text):
                self.assertNotIn(word, BARRED_WORDS, name)
            for part in BARRED_PARTS:
                self.assertNotIn(part, text, name)

    def test_percent_is_an_operator_alone(self):
        for name, text in self.texts.items():
            for token in tokenize.generate_tokens(io.StringIO(text).readline):
                if token.type != tokenize.OP:
                    self.assertNotIn("%", token.string, name)

    def test_escapes_in_texts(self):
        for name, text in self.texts.items():
            for token in tokenize.generate_tokens(io.StringIO(text).readline):
                if token.type == tokenize.STRING:
                    self.assertNotRegex(token.string.replace("\\\\", ""), r"\\[^nt'\"]", name)

    def test_top_of_a_file(self):
        for name, tree in self.trees.items():
            self.assertIsNotNone(ast.get_docstring(tree), name)
            bound = []
            for node in tree.body[1:]:
                self.assertIsInstance(node, TOP_NODES, f"{name}:{node.lineno}")
                if isinstance(node, ast.ImportFrom):
                    bound += [alias.name for alias in node.names]
                elif isinstance(node, ast.Assign):
                    self.plain_at_the_top(node.value, bound, f"{name}:{node.lineno}")
                    bound += [target.id for target in node.targets]
                else:
                    bound.append(node.name)
            self.assertEqual(len(bound), len(set(bound)), name)

    def plain_at_the_top(self, value, bound, at):
        """See to it that a value is plain, or a dict of texts with plain values or defs that stand above."""
        if isinstance(value, ast.Dict):
            for key, item in zip(value.keys, value.values):
                self.assertIsInstance(key, ast.Constant, at)
                if isinstance(item, ast.Name):
                    self.assertIn(item.id, bound, at)
                else:
                    self.assertNotIsInstance(item, (ast.Dict, ast.List), at)
                    ast.literal_eval(item)
        else:
            ast.literal_eval(value)

    def test_lists_and_dicts_of_the_top_are_read_by_an_index_alone(self):
        for name, tree in self.trees.items():
            kept = {row.targets[0].id for row in tree.body
                    if isinstance(row, ast.Assign) and isinstance(row.value, (ast.Dict, ast.List))}
            asked = [node.value for node in ast.walk(tree)
                     if isinstance(node, ast.Subscript) and isinstance(node.ctx, ast.Load)]
            asked += [side for node in ast.walk(tree) if isinstance(node, ast.Compare) for side in node.comparators
                      if all(isinstance(op, (ast.In, ast.NotIn)) for op in node.ops)]
            for node in ast.walk(tree):
                if isinstance(node, ast.Name) and node.id in kept and isinstance(node.ctx, ast.Load):
                    self.assertIn(node, asked, f"{name}:{node.lineno}")

    def test_imports(self):
        for name, tree in self.trees.items():
            rows = [node for node in ast.walk(tree) if isinstance(node, ast.ImportFrom)]
            for node in rows:
                self.assertIn(node, tree.body, name)
                self.assertEqual(node.level, 0, name)
                self.assertRegex(node.module, r"^manyleaves\.[a-z]+$", name)
                self.defined_there(node)

    def defined_there(self, row):
        body = self.trees[row.module.split(".")[1] + ".py"].body
        defined = [node.name for node in body if isinstance(node, (ast.FunctionDef, ast.ClassDef))]
        defined += [node.targets[0].id for node in body if isinstance(node, ast.Assign)]
        for alias in row.names:
            self.assertIn(alias.name, defined, row.module)
            self.assertIsNone(alias.asname)

    def test_no_two_files_draw_from_one_another(self):
        left = {}
        for name, tree in self.trees.items():
            left[name] = {row.module.split(".")[1] + ".py" for row in tree.body if isinstance(row, ast.ImportFrom)}
        while left:
            free = [name for name in left if not left[name] & set(left)]
            self.assertTrue(free, f"in a ring: {sorted(left)}")
            for name in free:
                del left[name]

    def test_forms(self):
        for at, node in self.nodes(*BARRED_NODES):
            self.fail(f"{at}: {node}")
        for at, node in self.nodes(ast.For, ast.While):
            self.assertEqual(node.orelse, [], at)
        for at, node in self.nodes(ast.Constant):
            self.assertNotIsInstance(node.value, (float, complex), at)
        for at, node in self.nodes(ast.Starred):
            self.assertIsInstance(node.ctx, ast.Store, at)
        for at, node in self.nodes(ast.Compare):
            for op, side in zip(node.ops, node.comparators):
                if isinstance(op, (ast.Is, ast.IsNot)):
                    self.assertIn(ast.unparse(side), ("None", "True", "False"), at)

    def test_defs_and_classes(self):
        for at, node in self.nodes(ast.FunctionDef, ast.ClassDef):
            self.assertEqual(node.decorator_list, [], at)
        for at, node in self.nodes(ast.arguments):
            self.assertEqual((node.posonlyargs, node.vararg, node.kwarg), ([], None, None), at)
        for at, node in self.nodes(ast.ClassDef):
            self.assertLessEqual(len(node.bases), 1, at)
            self.assertEqual(node.keywords, [], at)
            for row in node.body[1 if ast.get_docstring(node) else 0:]:
                self.assertIsInstance(row, (ast.FunctionDef, ast.Pass), at)

    def test_values_of_objects(self):
        given = {node.attr for at, node in self.nodes(ast.Attribute) if isinstance(node.ctx, ast.Store)}
        methods = {row.name for at, node in self.nodes(ast.ClassDef) for row in node.body
                   if isinstance(row, ast.FunctionDef)}
        self.assertEqual(given & (methods | METHODS | {"sort", "args", "encode", "decode", "hex"}), set())
        called = [node.func for at, node in self.nodes(ast.Call)]
        for at, node in self.nodes(ast.Attribute):
            if isinstance(node.ctx, ast.Store):
                self.assertEqual(ast.unparse(node.value), "self", at)
            elif node not in called:
                self.assertIn(node.attr, given, at)

    def test_tries_take_own_errors_alone(self):
        own = {node.name for at, node in self.nodes(ast.ClassDef)}
        for at, node in self.nodes(ast.Try):
            self.assertEqual((node.orelse, node.finalbody), ([], []), at)
            for handler in node.handlers:
                self.assertIsInstance(handler.type, ast.Name, at)
                self.assertIn(handler.type.id, own, at)
                self.assertIsNone(handler.name, at)

    def test_keywords(self):
        for at, node in self.nodes(ast.Call):
            names = [keyword.arg for keyword in node.keywords]
            if names:
                self.assertIn((node.func.id, *names), (("sorted", "reverse"), ("max", "key"), ("min", "key")), at)

    def test_what_is_walked_is_not_kept(self):
        lazy = ("zip", "enumerate", "reversed", "range")
        takers = ("list", "tuple", "dict", "sorted", "sum", "any", "all", "enumerate", "zip", "min", "max")
        for name, tree in self.trees.items():
            walked = [node.iter for node in ast.walk(tree) if isinstance(node, (ast.For, ast.comprehension))]
            walked += [node.args[0] for node in ast.walk(tree) if isinstance(node, ast.Call) and node.args
                       and isinstance(node.func, ast.Name) and node.func.id in takers]
            for node in ast.walk(tree):
                if isinstance(node, ast.Call):
                    called = node.func.id if isinstance(node.func, ast.Name) else node.func.attr
                    if called in lazy + ("items", "keys", "values"):
                        self.assertIn(node, walked, f"{name}:{node.lineno}")

    def own_names(self, name):
        tree = self.trees[name]
        own = {alias.name for row in tree.body if isinstance(row, ast.ImportFrom) for alias in row.names}
        for node in ast.walk(tree):
            if isinstance(node, (ast.FunctionDef, ast.ClassDef)):
                own.add(node.name)
            elif isinstance(node, ast.arg):
                own.add(node.arg)
            elif isinstance(node, ast.Name) and not isinstance(node.ctx, ast.Load):
                own.add(node.id)
        return own

    def test_names(self):
        for name, tree in self.trees.items():
            own = self.own_names(name)
            for word in own - DUNDERS:
                self.assertRegex(word, r"^[A-Za-z][A-Za-z0-9_]*$", name)
            self.assertEqual(own & (BUILTINS | BARRED_NAMES), set(), name)
            read = {node.id for node in ast.walk(tree) if isinstance(node, ast.Name)}
            self.assertLessEqual(read, own | BUILTINS, name)

    def test_locals_are_not_called_like_what_is_drawn(self):
        for name, tree in self.trees.items():
            drawn = {alias.name for row in tree.body if isinstance(row, ast.ImportFrom) for alias in row.names}
            top = drawn | {row.name for row in tree.body if isinstance(row, (ast.FunctionDef, ast.ClassDef))}
            for node in ast.walk(tree):
                if isinstance(node, ast.arg):
                    self.assertNotIn(node.arg, top, name)
                elif isinstance(node, ast.Name) and not isinstance(node.ctx, ast.Load):
                    self.assertNotIn(node.id, top, name)

    def test_methods(self):
        own = {row.name for at, node in self.nodes(ast.ClassDef) for row in node.body
               if isinstance(row, ast.FunctionDef)}
        for at, node in self.nodes(ast.Call):
            if isinstance(node.func, ast.Attribute):
                self.assertIn(node.func.attr, METHODS | own, at)

    def test_raised_are_own_errors(self):
        for at, node in self.nodes(ast.Raise):
            self.assertIsInstance(node.exc, ast.Call, at)
            self.assertRegex(node.exc.func.id, r"^[A-Z]", at)


if __name__ == "__main__":
    unittest.main()
