"""The rules that each file of the package keeps, as far as they can be seen by a short look."""

import ast
import builtins
import pathlib
import re
import unittest

PACKAGE = pathlib.Path(__file__).resolve().parent.parent / "clockloom"
FILES = sorted(PACKAGE.rglob("*.py"))

BUILTINS = set(
    "len range enumerate zip min max sum abs sorted reversed int str bool bytes list tuple dict set isinstance ord repr "
    "any all divmod ValueError KeyError NotImplemented".split()
)
METHODS = set(
    "append clear copy count endswith extend find get index insert isalnum isalpha isdigit islower isspace isupper items "
    "join keys ljust lower lstrip partition pop remove replace reverse rfind rjust rpartition rsplit rstrip setdefault "
    "split splitlines startswith strip update upper values zfill bit_length translate".split()
)
DOUBLE = {"__init__", "__eq__", "__repr__", "__str__", "__len__"}
UNUSED = set("register mro elements open input law version_info with_traceback add_note".split())
NOT_IN_FILES = (
    "type typing enum Enum Flag Generic Protocol ABC namedtuple NamedTuple TypedDict dataclass overload".split()
)
LIBRARY = {"math": {"gcd", "lcm", "isqrt"}, "heapq": {"heappush", "heappop"}}
BARRED = (
    ast.Global, ast.AsyncFunctionDef, ast.GeneratorExp, ast.Yield, ast.YieldFrom, ast.With, ast.Lambda,
    ast.Match, ast.AnnAssign, ast.Div, ast.Set, ast.SetComp, ast.Import, ast.NamedExpr, ast.Starred,
)
MAY_STAR = (ast.List, ast.Tuple)


def own_names(tree, kind):
    return {node.name for node in ast.walk(tree) if isinstance(node, kind)}


class Language(unittest.TestCase):
    def setUp(self):
        self.trees = {path: ast.parse(path.read_text()) for path in FILES}

    def each(self, kind):
        for path, tree in self.trees.items():
            for node in ast.walk(tree):
                if isinstance(node, kind):
                    yield path.name, node

    def test_the_folder_holds_nothing_else(self):
        others = [path for path in PACKAGE.rglob("*") if path.suffix != ".py" and "__pycache__" not in path.parts]
        self.assertEqual(others, [])
        self.assertTrue((PACKAGE / "__init__.py").exists())

    def test_signs_and_sizes(self):
        for path in FILES:
            text = path.read_text()
            self.assertTrue(re.fullmatch("[ -~\n]*", text), path)
            lines = text.split("\n")
            self.assertLessEqual(len(lines), 399, path)
            self.assertLessEqual(max(len(line) for line in lines), 120, path)
        for name, node in self.each(ast.FunctionDef):
            self.assertLessEqual(node.end_lineno - node.lineno + 1, 40, (name, node.name))

    def test_imports(self):
        leads = {}
        for path, tree in self.trees.items():
            leads[path.stem] = []
            for node in tree.body:
                if isinstance(node, ast.ImportFrom):
                    self.assertTrue(all(alias.asname is None for alias in node.names))
                    names = {alias.name for alias in node.names}
                    if node.module in LIBRARY:
                        self.assertLessEqual(names, LIBRARY[node.module])
                        continue
                    folder, _, file = node.module.partition(".")
                    self.assertEqual((folder, node.level), ("clockloom", 0))
                    leads[path.stem].append(file)
                    bound = {target.id for row in ast.parse((PACKAGE / f"{file}.py").read_text()).body
                             if isinstance(row, ast.Assign) for target in row.targets}
                    below = ast.parse((PACKAGE / f"{file}.py").read_text())
                    self.assertLessEqual(names, own_names(below, (ast.FunctionDef, ast.ClassDef)) | bound)
        done = set()
        while len(done) < len(leads):
            more = {name for name in leads if name not in done and set(leads[name]) <= done}
            self.assertTrue(more, "a ring of imports")
            done |= more

    def test_module_level(self):
        for path, tree in self.trees.items():
            bound = []
            for node in tree.body:
                self.assertIsInstance(node, (ast.Expr, ast.ImportFrom, ast.FunctionDef, ast.ClassDef, ast.Assign))
                if isinstance(node, ast.Expr):
                    self.assertIsInstance(node.value, ast.Constant)
                elif isinstance(node, ast.ImportFrom):
                    bound += [alias.name for alias in node.names]
                else:
                    bound.append(node.targets[0].id if isinstance(node, ast.Assign) else node.name)
            self.assertEqual(len(set(bound)), len(bound), path)

    def test_no_barred_statements(self):
        for path, tree in self.trees.items():
            starred = {id(part) for node in ast.walk(tree) if isinstance(node, MAY_STAR) for part in node.elts}
            for node in ast.walk(tree):
                if isinstance(node, BARRED) and id(node) not in starred:
                    self.fail(f"{path.name}:{node.lineno}: {type(node).__name__}")
                if isinstance(node, (ast.FunctionDef, ast.ClassDef)):
                    self.assertEqual(node.decorator_list, [])
                if isinstance(node, ast.Constant) and isinstance(node.value, float):
                    self.fail(f"{path.name}:{node.lineno}: a float")

    def test_own_refusals_alone_are_caught(self):
        own = own_names(self.trees[PACKAGE / "errors.py"], ast.ClassDef)
        for name, node in self.each(ast.Try):
            self.assertEqual((node.orelse, node.finalbody), ([], []), name)
            for handler in node.handlers:
                self.assertIsInstance(handler.type, ast.Name, name)
                self.assertIn(handler.type.id, own, name)
                self.assertIsNone(handler.name, name)

    def test_functions_of_tables_get_a_name_ahead_of_their_call(self):
        for name, node in self.each(ast.Call):
            self.assertIsInstance(node.func, (ast.Name, ast.Attribute), (name, node.lineno))

    def test_is_with_none_and_truths_alone(self):
        for name, node in self.each(ast.Compare):
            for sign, beside in zip(node.ops, node.comparators):
                if isinstance(sign, (ast.Is, ast.IsNot)):
                    self.assertIsInstance(beside, ast.Constant, (name, node.lineno))

    def test_names(self):
        barred = set(dir(builtins)) - {"_"}
        for path, tree in self.trees.items():
            taken = own_names(tree, ast.ClassDef) | {
                alias.name for node in ast.walk(tree) if isinstance(node, ast.ImportFrom) for alias in node.names}
            for node in ast.walk(tree):
                names = []
                if isinstance(node, ast.Name) and isinstance(node.ctx, (ast.Store, ast.Del)):
                    names = [node.id]
                elif isinstance(node, ast.arg):
                    names = [node.arg]
                elif isinstance(node, (ast.FunctionDef, ast.ClassDef)):
                    names = [node.name]
                    if node.name.startswith("__"):
                        self.assertIn(node.name, DOUBLE)
                for name in names:
                    self.assertNotIn(name, barred | UNUSED, (path.name, node.lineno))
                    if isinstance(node, (ast.Name, ast.arg)):
                        self.assertNotIn(name, taken, (path.name, node.lineno))
                if isinstance(node, ast.Name) and isinstance(node.ctx, ast.Load) and node.id in dir(builtins):
                    self.assertIn(node.id, BUILTINS, (path.name, node.lineno))
                    self.assertNotEqual(node.id, "_")

    def test_attributes(self):
        methods, assigned, builtin = set(), set(), set()
        for kind in (str, int, list, dict, tuple, bytes, set):
            builtin |= set(dir(kind))
        for _, node in self.each(ast.ClassDef):
            own = {row.name for row in node.body if isinstance(row, ast.FunctionDef)}
            methods |= own
            stored = {part.attr for part in ast.walk(node)
                      if isinstance(part, ast.Attribute) and isinstance(part.ctx, ast.Store)}
            self.assertFalse(own & stored, node.name)
            assigned |= stored
        self.assertFalse(assigned & builtin - {"count", "index", "title"})
        self.assertFalse(methods & builtin - DOUBLE - METHODS)
        for name, node in self.each(ast.Attribute):
            self.assertIn(node.attr, methods | assigned | METHODS, (name, node.lineno))
            if node.attr in METHODS:
                self.assertNotIn(node.attr, UNUSED)

    def test_texts(self):
        docs = set()
        for _, node in self.each((ast.Module, ast.ClassDef, ast.FunctionDef)):
            first = node.body[0] if node.body else None
            if isinstance(first, ast.Expr) and isinstance(first.value, ast.Constant):
                docs.add(id(first.value))
        for name, node in self.each(ast.Constant):
            if isinstance(node.value, str):
                self.assertNotIn("%", node.value, (name, node.lineno))
                if id(node) not in docs:
                    self.assertFalse([word for word in NOT_IN_FILES if re.search(rf"\b{word}\b", node.value)])
        for path in FILES:
            code = re.sub(r'"""[\s\S]*?"""|#.*', "", path.read_text())
            found = [word for word in NOT_IN_FILES + ["eval", "exec", "getattr"] if re.search(rf"\b{word}\b", code)]
            self.assertEqual(found, [], path)

    def test_loops_leave_alone_what_they_go_over(self):
        changing = {"append", "extend", "pop", "insert", "remove", "clear", "update", "setdefault", "reverse"}
        for name, node in self.each(ast.For):
            over = {part.id for part in ast.walk(node.iter) if isinstance(part, ast.Name)}
            for part in ast.walk(ast.Module(node.body, [])):
                if isinstance(part, ast.Call) and isinstance(part.func, ast.Attribute) and part.func.attr in changing:
                    if isinstance(part.func.value, ast.Name):
                        self.assertNotIn(part.func.value.id, over, (name, part.lineno))

    def test_lens_and_texts_of_objects(self):
        for name, node in self.each(ast.FunctionDef):
            if node.name in ("__len__", "__str__", "__repr__"):
                last = node.body[-1]
                self.assertIsInstance(last, ast.Return, name)
                if node.name == "__len__":
                    self.assertEqual(last.value.func.id, "len")
                else:
                    self.assertIsInstance(last.value, ast.JoinedStr)


if __name__ == "__main__":
    unittest.main()
