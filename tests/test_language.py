"""The files of the package keep to the plain subset of the language that they are written in.

These checks are narrower than the subset in places: what the package does not need is not let here.
"""
import ast
import builtins
import io
import pathlib
import re
import tokenize
import unittest

FOLDER = pathlib.Path(__file__).resolve().parent.parent / "remadedays"
FILES = sorted(FOLDER.iterdir())
TREES = {path.stem: ast.parse(path.read_text(encoding="utf-8")) for path in FILES if path.suffix == ".py"}
BUILTINS = {"len", "range", "enumerate", "zip", "min", "max", "sum", "abs", "sorted", "int", "str", "bool", "list", "tuple",
            "dict", "isinstance", "any", "all", "iter", "ValueError", "TypeError", "NotImplemented", "property", "classmethod",
            "staticmethod", "True", "False", "None"}
METHODS = {"append", "count", "extend", "get", "index", "isalpha", "isascii", "isdigit", "islower", "items", "join", "pop",
           "split", "startswith", "removeprefix", "bit_length", "values", "setdefault", "replace"}
SPECIAL = {"__init__", "__eq__", "__str__", "__len__", "__call__", "__iter__", "__lt__", "__le__", "__gt__", "__ge__", "__add__",
           "__radd__", "__sub__", "__and__", "__or__", "__xor__", "__mod__", "__rmod__", "__floordiv__", "__rfloordiv__",
           "__invert__", "__bool__", "__contains__", "__getitem__", "__iadd__", "__enter__", "__exit__"}
LIBRARY = {"math": {"lcm", "gcd"}}
BARRED = {"register", "mro", "elements", "open", "input", "law", "version_info", "with_traceback", "add_note", "attrgetter",
          "breakpoint", "compile", "copyright", "credits", "delattr", "dir", "eval", "exec", "exit", "gc", "globals", "help", "id",
          "importlib", "license", "locals", "methodcaller", "os", "quit", "super", "type", "vars", "sys", "next", "map", "keys",
          "sort", "args", "format", "_cold", "_tuplegetter", "_outside", "_record", "_written_out", "_member_names"}
WORDS = re.compile(r"\b(type|typing|typing_extensions|enum|Enum|IntEnum|StrEnum|Flag|IntFlag|Generic|Protocol|ABC|ABCMeta|"
                   r"namedtuple|NamedTuple|TypedDict|TYPE_CHECKING|abstractmethod)\b|dataclass|overload|contextmanager|_wall")
NOT_LET = (ast.AugAssign, ast.Set, ast.SetComp, ast.GeneratorExp, ast.Lambda, ast.Global, ast.Nonlocal,
           ast.AsyncFunctionDef, ast.Await, ast.NamedExpr, ast.Match, ast.Delete, ast.Assert, ast.AnnAssign, ast.Import,
           ast.YieldFrom, ast.Div, ast.MatMult)


def functions(tree):
    """All functions and methods of a tree."""
    return [node for node in ast.walk(tree) if isinstance(node, ast.FunctionDef)]


def classes(tree):
    """All classes of a tree."""
    return [node for node in tree.body if isinstance(node, ast.ClassDef)]


def mark_of(function):
    """The word of the decorator of a function, "plain" without one; a setter's has a dot."""
    return ast.unparse(function.decorator_list[0]) if function.decorator_list else "plain"


def bound(function):
    """The names of the parameters and local variables of a function, without those of comprehensions."""
    inner = {id(name) for node in ast.walk(function) if isinstance(node, ast.comprehension) for name in ast.walk(node.target)}
    names = {arg.arg for arg in ast.walk(function.args) if isinstance(arg, ast.arg)}
    return names | {node.id for node in ast.walk(function)
                    if isinstance(node, ast.Name) and isinstance(node.ctx, ast.Store) and id(node) not in inner}


def comprehension_names(function):
    """The names that the comprehensions of a function bind."""
    return {name.id for node in ast.walk(function) if isinstance(node, ast.comprehension) for name in ast.walk(node.target)
            if isinstance(name, ast.Name)}


def is_plain(node):
    """Whether an expression is plainly a number or a string; a sum only if each of its parts is."""
    if isinstance(node, ast.BinOp) and isinstance(node.op, (ast.Add, ast.Sub)):
        return is_plain(node.left) and is_plain(node.right)
    if isinstance(node, ast.Call) and isinstance(node.func, ast.Name):
        return node.func.id in ("len", "int", "str")
    return isinstance(node, ast.Constant)


def is_choice_of_plain(call):
    """Whether a call of sorted, min or max stands over what is plainly numbers or strings."""
    if {word.arg for word in call.keywords} - {"default"}:
        return False
    if len(call.args) == 1:
        return isinstance(call.args[0], ast.ListComp) and is_plain(call.args[0].elt)
    return any(is_plain(arg) for arg in call.args)


class Files(unittest.TestCase):

    def test_names_and_signs(self):
        self.assertIn("__init__", TREES)
        for path in FILES:
            if path.name == "__pycache__":
                continue
            self.assertRegex(path.name, r"\A[a-z_]+\.py\Z")
            text = path.read_text(encoding="utf-8")
            self.assertRegex(text, r"\A[ -~\n]*\Z", path.name)
            lines = text.split("\n")
            self.assertLessEqual(len(lines), 400, path.name)
            for line in lines:
                self.assertLessEqual(len(line), 120, path.name)

    def test_sizes_of_functions(self):
        for name, tree in TREES.items():
            for function in functions(tree):
                self.assertLessEqual(function.end_lineno - function.lineno + 1, 40, (name, function.name))

    def test_barred_words(self):
        for path in FILES:
            if path.suffix != ".py":
                continue
            for token in tokenize.generate_tokens(io.StringIO(path.read_text(encoding="utf-8")).readline):
                if token.type == tokenize.NAME:
                    self.assertIsNone(WORDS.fullmatch(token.string), (path.name, token.start))
                if token.type == tokenize.STRING and not token.string.startswith('"""'):
                    self.assertIsNone(WORDS.search(token.string), (path.name, token.start))
                    self.assertNotIn("%", token.string)
                    self.assertNotIn("__", token.string)


class Trees(unittest.TestCase):

    def test_module_level(self):
        for name, tree in TREES.items():
            self.assertIsNotNone(ast.get_docstring(tree), name)
            for node in tree.body[1:]:
                self.assertIsInstance(node, (ast.ImportFrom, ast.FunctionDef, ast.ClassDef, ast.Assign), name)
                if isinstance(node, ast.Assign):
                    self.assertRegex(node.targets[0].id, r"\A[A-Z_]+\Z")

    def test_imports(self):
        needs = {}
        for name, tree in TREES.items():
            needs[name] = set()
            for node in ast.walk(tree):
                if isinstance(node, ast.ImportFrom):
                    words = {alias.name for alias in node.names}
                    self.assertTrue(all(alias.asname is None for alias in node.names))
                    if node.module in LIBRARY:
                        self.assertLessEqual(words, LIBRARY[node.module])
                        continue
                    package, file = node.module.split(".")
                    self.assertEqual(package, "remadedays")
                    needs[name].add(file)
                    told = {item.name for item in TREES[file].body if isinstance(item, (ast.FunctionDef, ast.ClassDef))}
                    told |= {item.targets[0].id for item in TREES[file].body if isinstance(item, ast.Assign)}
                    self.assertLessEqual(words, told, name)
                    used = {item.id for item in ast.walk(tree) if isinstance(item, ast.Name)}
                    self.assertLessEqual(words, used, name)
        while needs:
            free = [name for name in needs if not needs[name] & set(needs)]
            self.assertTrue(free, "files import from each other")
            for name in free:
                del needs[name]

    def test_what_is_not_let(self):
        for name, tree in TREES.items():
            for node in ast.walk(tree):
                self.assertNotIsInstance(node, NOT_LET, (name, getattr(node, "lineno", None)))
                if isinstance(node, ast.Constant):
                    self.assertNotIsInstance(node.value, (float, complex, bytes), name)
                if isinstance(node, ast.Compare) and any(isinstance(op, (ast.Is, ast.IsNot)) for op in node.ops):
                    self.assertIsInstance(node.comparators[0], ast.Constant, (name, node.lineno))
                if isinstance(node, ast.BinOp) and isinstance(node.op, ast.Pow):
                    self.assertIn(node.right.value, range(65))

    def test_decorators(self):
        for tree in TREES.values():
            for function in functions(tree):
                self.assertLessEqual(len(function.decorator_list), 1)
                self.assertIn(mark_of(function), ("plain", "property", "classmethod", "staticmethod", f"{function.name}.setter"))
                nested = [node for node in ast.walk(function) if isinstance(node, ast.FunctionDef) and node is not function]
                self.assertEqual(nested, [])

    def test_setters(self):
        shown, set_too = {}, {}
        for tree in TREES.values():
            for item in classes(tree):
                marks = {(function.name, mark_of(function)) for function in functions(item)}
                for name, mark in marks:
                    if mark == "property":
                        shown.setdefault(name, set()).add(item.name)
                    if mark.endswith(".setter"):
                        self.assertIn((name, "property"), marks)
                        set_too.setdefault(name, set()).add(item.name)
        # A property that is assigned has its setter in each class that has it.
        for name in set_too:
            self.assertEqual(set_too[name], shown[name])

    def test_blocks_that_are_left(self):
        ends = 0
        for name, tree in TREES.items():
            for node in ast.walk(tree):
                if isinstance(node, ast.With):
                    self.assertTrue(all(isinstance(item.context_expr, ast.Call) for item in node.items), name)
            for function in functions(tree):
                if function.name != "__exit__":
                    continue
                ends += 1
                for row in function.body:
                    self.assertIsInstance(row, ast.Assign, name)
                    self.assertIsInstance(row.targets[0], (ast.Name, ast.Attribute), name)
                    self.assertIsInstance(row.value, (ast.Name, ast.Attribute), name)
                for node in ast.walk(function):
                    if isinstance(node, ast.Attribute):
                        self.assertNotIn(node.attr, ("keys", "args"), name)
        self.assertGreater(ends, 0)

    def test_errors_that_are_caught(self):
        own = {item.name for item in classes(TREES["errors"])}
        for name, tree in TREES.items():
            for node in ast.walk(tree):
                if isinstance(node, ast.Try):
                    self.assertFalse(node.finalbody or node.orelse, name)
                    for handler in node.handlers:
                        self.assertIn(handler.type.id, own, name)
                if isinstance(node, ast.Raise):
                    self.assertIsInstance(node.exc, ast.Call, name)
                    self.assertIn(node.exc.func.id, own | {"TypeError"}, name)

    def test_builtins(self):
        known = set(dir(builtins))
        for name, tree in TREES.items():
            for node in ast.walk(tree):
                if isinstance(node, ast.Name) and isinstance(node.ctx, ast.Load) and node.id in known:
                    self.assertIn(node.id, BUILTINS, (name, node.lineno))

    def test_names(self):
        known = set(dir(builtins))
        for name, tree in TREES.items():
            imported = {alias.name for node in ast.walk(tree) if isinstance(node, ast.ImportFrom) for alias in node.names}
            told = imported | {item.name for item in tree.body if isinstance(item, (ast.FunctionDef, ast.ClassDef))}
            for function in functions(tree):
                names = bound(function) | comprehension_names(function)
                self.assertFalse(names & (told | known | BARRED), (name, function.name, names & (told | known | BARRED)))
                self.assertFalse(comprehension_names(function) & bound(function), (name, function.name))
                if function.name.startswith("__"):
                    self.assertIn(function.name, SPECIAL)
                self.assertNotIn(function.name, BARRED)

    def test_methods_and_attributes(self):
        methods, fields, shown = {}, set(), set()
        for tree in TREES.values():
            for item in classes(tree):
                for function in functions(item):
                    methods.setdefault(function.name, set()).add(mark_of(function).replace(f"{function.name}.setter", "property"))
                for node in ast.walk(item):
                    if isinstance(node, ast.Attribute) and isinstance(node.ctx, ast.Store):
                        fields.add(node.attr)
                    if isinstance(node, ast.Assign) and node in item.body:
                        shown.add(node.targets[0].id)
        for name, kinds in methods.items():
            self.assertEqual(len(kinds), 1, name)
        self.assertFalse(fields & set(methods))
        self.assertFalse((fields | shown) & METHODS)
        for name, tree in TREES.items():
            for node in ast.walk(tree):
                if isinstance(node, ast.Attribute):
                    self.assertIn(node.attr, METHODS | fields | set(methods) | shown | {"setter"}, (name, node.lineno))
                    self.assertNotIn(node.attr, BARRED)

    def test_calls_of_builtins(self):
        for name, tree in TREES.items():
            for node in ast.walk(tree):
                if not isinstance(node, ast.Call) or not isinstance(node.func, ast.Name):
                    continue
                place = (name, node.lineno)
                if node.func.id in ("sorted", "min", "max"):
                    self.assertTrue(is_choice_of_plain(node), place)
                if node.func.id in ("any", "all"):
                    self.assertIsInstance(node.args[0], ast.ListComp, place)

    def test_choices_of_numbers(self):
        for row in ("max(int(late) + 1 - nearest[place], told.get(table, 0))", "max(int(days.parts[3]) + slack - night, unlike)",
                    "max(night, unlike)", "min(rows)", "min([night for night in rows])", "sorted(rows, key=len)",
                    "sorted(rows, reverse=True)", "min([int(night) + more for night in rows])", "max(-night, late - 1)"):
            self.assertFalse(is_choice_of_plain(ast.parse(row).body[0].value), row)
        for row in ("max(int(late + 1 - nearest[place]), told.get(table, 0))", "max(0, night)", "min(int(high) - 1, day)",
                    "sorted([str(name) for name in rows])", "max([len(row) + 1 for row in rows], default=0)"):
            self.assertTrue(is_choice_of_plain(ast.parse(row).body[0].value), row)

    def test_classes(self):
        for name, tree in TREES.items():
            for item in classes(tree):
                names = [function.name for function in item.body
                         if isinstance(function, ast.FunctionDef) and not mark_of(function).endswith(".setter")]
                self.assertEqual(len(names), len(set(names)), item.name)
                if "__getitem__" in names:
                    self.assertIn("__iter__", names)
                for function in functions(item):
                    if function.name in ("__str__", "__len__", "__bool__"):
                        self.assertIsInstance(function.body[-1], ast.Return)
                    if function.name in ("__len__", "__iter__") and isinstance(function.body[0], ast.Return):
                        self.assertEqual(function.body[0].value.func.id, function.name.strip("_"))
                if name != "errors":
                    self.assertIsNotNone(ast.get_docstring(item), item.name)


if __name__ == "__main__":
    unittest.main()
