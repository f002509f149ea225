"""The package keeps to the part of Python that is allowed: what a reading of its files can tell."""

import ast
import builtins
import pathlib
import re
import unittest

FOLDER = pathlib.Path(__file__).resolve().parent.parent / "coursenumbers"
FILES = sorted(path for path in FOLDER.rglob("*") if "__pycache__" not in path.parts)

OWN_NAMES = set(
    "len range enumerate zip min max sum abs sorted reversed int str bool list tuple dict set frozenset isinstance ord "
    "repr any all divmod Exception ValueError TypeError KeyError IndexError LookupError ZeroDivisionError "
    "ArithmeticError OverflowError RuntimeError NotImplementedError AttributeError StopIteration".split())
OWN_METHODS = set(
    "append clear copy count endswith extend find get index insert isalnum isalpha isdigit islower isspace isupper "
    "items join keys ljust lower lstrip partition pop remove replace reverse rfind rjust rpartition rsplit rstrip "
    "setdefault split splitlines startswith strip update upper values zfill bit_length".split())
VALUE_NAMES = set("count index title find get join lower upper split strip copy add".split())
PYTHONS = {name for kind in (str, int, list, dict, set, bytes, tuple) for name in dir(kind)}
UNUSED_WORDS = (
    "type typing typing_extensions enum Enum IntEnum StrEnum Flag IntFlag Generic Protocol ABC ABCMeta namedtuple "
    "NamedTuple TypedDict TYPE_CHECKING abstractmethod".split())
UNUSED_NAMES = set(
    "register mro elements open input version_info with_traceback add_note attrgetter breakpoint builtins compile "
    "copyright credits delattr dir eval exec exit gc getattr globals hasattr help id importlib license locals "
    "methodcaller os quit setattr super type vars sys format format_map chr".split())
NODES = (
    ast.Module, ast.ImportFrom, ast.alias, ast.FunctionDef, ast.arguments, ast.arg, ast.ClassDef, ast.Assign,
    ast.AugAssign, ast.If, ast.While, ast.For, ast.Return, ast.Break, ast.Continue, ast.Pass, ast.Raise, ast.Try,
    ast.ExceptHandler, ast.Expr, ast.Constant, ast.Name, ast.Attribute, ast.Subscript, ast.Slice, ast.Call, ast.List,
    ast.Tuple, ast.Dict, ast.ListComp, ast.comprehension, ast.BinOp, ast.UnaryOp, ast.BoolOp, ast.Compare, ast.IfExp,
    ast.JoinedStr, ast.FormattedValue, ast.Lambda, ast.keyword, ast.expr_context, ast.operator, ast.unaryop, ast.boolop,
    ast.cmpop)
WALKED = ("zip", "enumerate", "reversed", "range")
WALKERS = ("list", "tuple", "dict", "sorted", "sum", "any", "all", "enumerate", "zip")


class Language(unittest.TestCase):
    def setUp(self):
        self.sources = {path: path.read_text(encoding="ascii") for path in FILES}
        self.trees = {path: ast.parse(source) for path, source in self.sources.items()}

    def nodes(self, *kinds):
        for path, tree in self.trees.items():
            for node in ast.walk(tree):
                if isinstance(node, kinds):
                    yield path.name + ":" + str(getattr(node, "lineno", 0)), node

    def test_files(self):
        self.assertIn("__init__.py", [path.name for path in FILES])
        for path in FILES:
            self.assertTrue(re.fullmatch(r"[a-z][a-z0-9_]*\.py|__init__\.py", path.name), path)
            self.assertFalse(path.stem in dir(builtins) or path.stem.startswith("test"), path)

    def test_signs_and_sizes(self):
        for path, source in self.sources.items():
            self.assertTrue(re.fullmatch(r"[ -~\n]*", source), path)
            self.assertLessEqual(source.count("\n"), 400)
            for line in source.split("\n"):
                self.assertLessEqual(len(line), 120, line)
            for word in UNUSED_WORDS:
                self.assertIsNone(re.search(rf"\b{word}\b", source), (path, word))
            self.assertIsNone(re.search("dataclass|overload|contextmanager", source), path)
        for where, node in self.nodes(ast.FunctionDef):
            self.assertLessEqual(node.end_lineno - node.lineno + 1, 40, where)

    def test_forms(self):
        for where, node in self.nodes(ast.AST):
            self.assertIsInstance(node, NODES, where)
        for where, node in self.nodes(ast.While, ast.For):
            self.assertEqual(node.orelse, [], where)
        for where, node in self.nodes(ast.Try):
            self.assertEqual(node.finalbody, [], where)
        for where, node in self.nodes(ast.Assign):
            self.assertEqual(len(node.targets), 1, where)
        for where, node in self.nodes(ast.BinOp, ast.AugAssign):
            self.assertNotIsInstance(node.op, (ast.Div, ast.MatMult, ast.Pow), where)
        for where, node in self.nodes(ast.ListComp):
            self.assertTrue(len(node.generators) == 1 and len(node.generators[0].ifs) <= 1, where)
        for where, node in self.nodes(ast.Compare):
            for op, side in zip(node.ops, node.comparators):
                if isinstance(op, (ast.Is, ast.IsNot)):
                    self.assertTrue(isinstance(side, ast.Constant) and side.value in (None, True, False), where)
        for where, node in self.nodes(ast.FormattedValue):
            self.assertIsInstance(node.value, ast.Name, where)
        for where, node in self.nodes(ast.Constant):
            self.assertIsInstance(node.value, (int, str, type(None)), where)
            if isinstance(node.value, str):
                self.assertNotIn("%", node.value, where)

    def test_statements_by_themselves_are_calls(self):
        for path, tree in self.trees.items():
            for node in ast.walk(tree):
                if isinstance(node, ast.Expr) and node is not tree.body[0]:
                    self.assertIsInstance(node.value, ast.Call, (path, node.lineno))

    def test_tops(self):
        for path, tree in self.trees.items():
            bound = []
            for node in tree.body[1:]:
                self.assertIsInstance(node, (ast.ImportFrom, ast.FunctionDef, ast.ClassDef, ast.Assign), path)
                if isinstance(node, ast.Assign):
                    ast.literal_eval(node.value)
                    bound.append(node.targets[0].id)
                elif isinstance(node, ast.ImportFrom):
                    bound += [name.name for name in node.names]
                else:
                    bound.append(node.name)
            self.assertEqual(len(bound), len(set(bound)), path)

    def test_imports(self):
        draws = {}
        for path, tree in self.trees.items():
            draws[path.stem] = []
            tops = {}
            for node in ast.walk(tree):
                if isinstance(node, ast.ImportFrom):
                    self.assertTrue(node in tree.body and node.level == 0, path)
                    package, stem = node.module.split(".")
                    self.assertEqual(package, "coursenumbers")
                    draws[path.stem].append(stem)
                    defined = self.defined(FOLDER / (stem + ".py"))
                    for name in node.names:
                        self.assertIn(name.name, defined, path)
                        self.assertIsNone(name.asname)
                        tops[name.name] = True
            used = {node.id for node in ast.walk(tree) if isinstance(node, ast.Name)}
            self.assertEqual(set(tops) - used, set(), path)
        left = dict(draws)
        while left:
            free = [stem for stem in left if not any(other in left for other in left[stem])]
            self.assertTrue(free, f"drawn in a ring: {sorted(left)}")
            left = {stem: drawn for stem, drawn in left.items() if stem not in free}

    def defined(self, path):
        names = set()
        for node in self.trees[path].body:
            if isinstance(node, (ast.FunctionDef, ast.ClassDef)):
                names.add(node.name)
            if isinstance(node, ast.Assign):
                names.add(node.targets[0].id)
        return names

    def test_names(self):
        for where, node in self.nodes(ast.Name, ast.Attribute, ast.arg, ast.FunctionDef, ast.ClassDef):
            name = {ast.Name: "id", ast.Attribute: "attr", ast.arg: "arg"}.get(type(node), "name")
            name = getattr(node, name)
            if name != "__init__":
                self.assertTrue(re.fullmatch("[A-Za-z][A-Za-z0-9_]*", name), (where, name))
            self.assertNotIn(name, UNUSED_NAMES, where)
            if isinstance(node, ast.Name) and isinstance(node.ctx, ast.Load) and name in dir(builtins):
                self.assertIn(name, OWN_NAMES, where)

    def test_locals(self):
        for path, tree in self.trees.items():
            taken = set(dir(builtins))
            for node in tree.body:
                if isinstance(node, ast.ClassDef):
                    taken.add(node.name)
                if isinstance(node, ast.ImportFrom):
                    taken.update(name.name for name in node.names)
            for node in ast.walk(tree):
                if isinstance(node, ast.arg):
                    self.assertNotIn(node.arg, taken, (path, node.lineno))
                if isinstance(node, ast.Name) and isinstance(node.ctx, ast.Store):
                    self.assertNotIn(node.id, taken, (path, node.lineno))
                if isinstance(node, ast.ExceptHandler) and node.name:
                    self.assertNotIn(node.name, taken, (path, node.lineno))

    def test_functions(self):
        for where, node in self.nodes(ast.FunctionDef):
            self.assertEqual(node.decorator_list, [], where)
            self.assertIsNone(node.returns, where)
            arguments = node.args
            self.assertFalse(arguments.vararg or arguments.kwarg or arguments.kwonlyargs or arguments.posonlyargs, where)
        for where, node in self.nodes(ast.Call):
            self.assertFalse(any(isinstance(a, ast.Starred) for a in node.args), where)
            for keyword in node.keywords:
                self.assertIn((node.func.id, keyword.arg), [("sorted", "key")], where)

    def test_classes(self):
        methods, held = set(), set()
        for where, node in self.nodes(ast.ClassDef):
            self.assertLessEqual(len(node.bases), 1, where)
            self.assertFalse(node.decorator_list or node.keywords, where)
            names = [part.name for part in node.body if isinstance(part, ast.FunctionDef)]
            self.assertEqual(len(names), len(set(names)), where)
            self.assertTrue(all(isinstance(part, (ast.FunctionDef, ast.Pass)) for part in node.body), where)
            methods.update(names)
        for where, node in self.nodes(ast.Attribute):
            if isinstance(node.ctx, ast.Store):
                held.add(node.attr)
        self.assertEqual(methods & held, set())
        self.assertEqual((held & PYTHONS) - VALUE_NAMES, set())
        self.assertEqual((methods & PYTHONS) - OWN_METHODS - {"__init__", "add", "discard"}, set())
        called = {node.func.attr for _, node in self.nodes(ast.Call) if isinstance(node.func, ast.Attribute)}
        self.assertEqual(called - methods - OWN_METHODS, set())

    def test_walked_at_once(self):
        for path, tree in self.trees.items():
            fine = set()
            for node in ast.walk(tree):
                if isinstance(node, (ast.For, ast.comprehension)):
                    fine.add(node.iter)
                if isinstance(node, ast.Call) and isinstance(node.func, ast.Name) and node.func.id in WALKERS:
                    fine.update(node.args[:1])
            for node in ast.walk(tree):
                if isinstance(node, ast.Call) and isinstance(node.func, ast.Name) and node.func.id in WALKED:
                    self.assertIn(node, fine, (path, node.lineno))

    def test_errors(self):
        own = {node.name for _, node in self.nodes(ast.ClassDef)}
        for where, node in self.nodes(ast.ExceptHandler):
            self.assertIn(node.type.id, own, where)
        for where, node in self.nodes(ast.Raise):
            self.assertTrue(isinstance(node.exc, ast.Call) and node.exc.func.id in own, where)


if __name__ == "__main__":
    unittest.main()
