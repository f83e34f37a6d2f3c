"""The rules of LANGUAGE.md that can be read off the files of the package, taken somewhat narrower than they are."""

import ast
import builtins
import keyword
import os
import re
import unittest

ROOT = os.path.dirname(os.path.dirname(os.path.abspath(__file__)))
PACKAGE = os.path.join(ROOT, "truebeat")
LIBRARY = {"heapq": {"heappush", "heappop"}}
BUILTINS = {
    "len", "range", "enumerate", "zip", "min", "max", "sum", "abs", "sorted", "reversed", "int", "str", "bool", "list",
    "tuple", "dict", "set", "isinstance", "ord", "repr", "any", "all", "divmod",
}
ERRORS = {"ValueError", "KeyError", "IndexError", "LookupError", "OverflowError", "ArithmeticError", "TypeError"}
METHODS = set(
    "append clear copy count endswith extend find get index insert isalnum isalpha isdigit islower isspace isupper "
    "items join keys ljust lower lstrip partition pop remove replace reverse rfind rjust rpartition rsplit rstrip "
    "setdefault split splitlines startswith strip update upper values zfill bit_length add discard".split())
CHANGING = {"append", "clear", "extend", "insert", "pop", "remove", "reverse", "setdefault", "update", "add", "discard"}
BARRED = {
    "register", "mro", "elements", "open", "input", "law", "version_info", "with_traceback", "add_note", "attrgetter",
    "breakpoint", "builtins", "compile", "copyright", "credits", "delattr", "dir", "eval", "exec", "exit", "gc",
    "globals", "help", "id", "importlib", "license", "locals", "methodcaller", "os", "quit", "type", "vars", "sys",
}
WORDS = re.compile(
    r"\b(type|typing|typing_extensions|enum|Enum|IntEnum|StrEnum|Flag|IntFlag|Generic|Protocol|ABC|ABCMeta|namedtuple|"
    r"NamedTuple|TypedDict|TYPE_CHECKING|abstractmethod)\b|dataclass|overload|contextmanager|_wall|_WallAttr")
STATEMENTS = (
    ast.Expr, ast.Assign, ast.AugAssign, ast.If, ast.While, ast.For, ast.Return, ast.Break, ast.Continue, ast.Pass,
    ast.Raise, ast.FunctionDef, ast.ClassDef, ast.ImportFrom, ast.Delete, ast.Try)
EXPRESSIONS = (
    ast.Constant, ast.Name, ast.Attribute, ast.Subscript, ast.Slice, ast.Call, ast.BinOp, ast.UnaryOp, ast.BoolOp,
    ast.Compare, ast.IfExp, ast.Tuple, ast.List, ast.Dict, ast.ListComp, ast.DictComp, ast.Starred, ast.JoinedStr,
    ast.FormattedValue, ast.Yield)
OPERATORS = (
    ast.Add, ast.Sub, ast.Mult, ast.FloorDiv, ast.Mod, ast.Pow, ast.BitAnd, ast.BitOr, ast.BitXor, ast.LShift,
    ast.RShift, ast.USub, ast.Not, ast.Invert, ast.And, ast.Or)


def package_files():
    found = []
    for folder, folders, files in os.walk(PACKAGE):
        folders[:] = sorted(name for name in folders if name != "__pycache__")
        found += [os.path.join(folder, name) for name in sorted(files)]
    return found


def module_name(path):
    inner = os.path.relpath(path, ROOT)[:-3].replace(os.sep, ".")
    return inner[:-len(".__init__")] if inner.endswith(".__init__") else inner


def text_of(path):
    with open(path, encoding="utf-8", newline="") as file:
        return file.read()


def parsed():
    return {path: ast.parse(text_of(path)) for path in package_files()}


def bound_names(tree):
    """The names that a file's module level binds, those of imports left out."""
    names = []
    for node in tree.body:
        if isinstance(node, (ast.FunctionDef, ast.ClassDef)):
            names.append(node.name)
        elif isinstance(node, ast.Assign):
            names += [target.id for target in node.targets]
    return names


def imported_names(tree):
    return [alias.name for node in tree.body if isinstance(node, ast.ImportFrom) for alias in node.names]


def local_names(tree):
    """All names of parameters and of variables in functions, with their lines."""
    for node in ast.walk(tree):
        if isinstance(node, ast.arg):
            yield node.arg, node.lineno
        if isinstance(node, ast.Name) and isinstance(node.ctx, ast.Store) and node not in tops(tree):
            yield node.id, node.lineno


def tops(tree):
    return [target for node in tree.body if isinstance(node, ast.Assign) for target in node.targets]


def iterated_names(node):
    """The plain names over which a loop goes, directly or through enumerate, zip, reversed and views."""
    if isinstance(node, ast.Name):
        return [node.id]
    if not isinstance(node, ast.Call):
        return []
    if isinstance(node.func, ast.Name) and node.func.id in ("enumerate", "zip", "reversed"):
        return [name for inner in node.args for name in iterated_names(inner)]
    if isinstance(node.func, ast.Attribute) and node.func.attr in ("items", "keys", "values"):
        return iterated_names(node.func.value)
    return []


def changed_names(nodes):
    """The plain names whose values the nodes change in place."""
    for outer in nodes:
        for node in ast.walk(outer):
            stored = isinstance(node, ast.Subscript) and not isinstance(node.ctx, ast.Load)
            if stored and isinstance(node.value, ast.Name):
                yield node.value.id
            if isinstance(node, ast.Call):
                of_name = isinstance(node.func, ast.Attribute) and isinstance(node.func.value, ast.Name)
                if of_name and node.func.attr in CHANGING:
                    yield node.func.value.id
                if isinstance(node.func, ast.Name) and node.func.id in ("heappush", "heappop", "put"):
                    yield getattr(node.args[0], "id", "")


class FilesTest(unittest.TestCase):
    def test_files(self):
        paths = package_files()
        self.assertLessEqual(len(paths), 100)
        for path in paths:
            self.assertRegex(os.path.basename(path), r"^(__init__|[a-z][a-z0-9_]*)\.py$")
            self.assertTrue(os.path.exists(os.path.join(os.path.dirname(path), "__init__.py")), path)
            self.assertFalse(os.path.isdir(path[:-3]), path)
            self.assertNotIn(os.path.basename(path)[:-3], dir(builtins))

    def test_characters_and_lines(self):
        for path in package_files():
            text = text_of(path)
            self.assertTrue(all(sign == "\n" or " " <= sign <= "~" for sign in text), path)
            self.assertLess(text.count("\n"), 400, path)
            self.assertLessEqual(max(map(len, text.split("\n"))), 120, path)

    def test_words(self):
        for path, tree in parsed().items():
            for node in ast.walk(tree):
                if isinstance(node, ast.Constant) and isinstance(node.value, str):
                    self.assertNotIn("%", node.value, path)
                    self.assertFalse(node.value.endswith(("._", ".__")), path)
                    self.assertFalse(WORDS.search(node.value) and "\n" not in node.value, (path, node.value))

    def test_sizes_of_functions(self):
        for path, tree in parsed().items():
            for node in ast.walk(tree):
                if isinstance(node, ast.FunctionDef):
                    self.assertLessEqual(node.end_lineno - node.lineno + 1, 40, (path, node.name))

    def test_decorators_and_methods(self):
        for path, tree in parsed().items():
            methods = {inner: node for node in tree.body if isinstance(node, ast.ClassDef) for inner in node.body}
            for node in ast.walk(tree):
                if not isinstance(node, ast.FunctionDef):
                    continue
                words = [getattr(word, "id", "") for word in node.decorator_list]
                self.assertIn(words, [[], ["property"]] if node in methods else [[]], (path, node.name))
                if words:
                    self.assertEqual([arg.arg for arg in node.args.args], ["self"], (path, node.name))
                if node.name.startswith("__"):
                    self.assertIn(node, methods, path)
                    self.assertIn(node.name, ("__init__", "__eq__", "__str__", "__len__", "__contains__"), path)

    def test_double_underscore_methods_only_return(self):
        for path, tree in parsed().items():
            for node in ast.walk(tree):
                if isinstance(node, ast.FunctionDef) and node.name.startswith("__") and node.name != "__init__":
                    self.assertEqual([type(row) for row in node.body], [ast.Return], (path, node.name))
                    value = node.body[0].value
                    if node.name == "__len__":
                        self.assertEqual((type(value), value.func.id), (ast.Call, "len"), path)
                    if node.name == "__str__":
                        self.assertIsInstance(value, ast.JoinedStr, path)

    def test_names_of_members(self):
        """No name is that of a method, a property and an attribute, or of a generator and of something else."""
        trees = list(parsed().values())
        methods, properties, attributes, functions = set(), set(), set(), []
        for tree in trees:
            for node in ast.walk(tree):
                if isinstance(node, ast.ClassDef):
                    for inner in node.body:
                        if isinstance(inner, ast.FunctionDef) and not inner.name.startswith("__"):
                            (properties if inner.decorator_list else methods).add(inner.name)
                if isinstance(node, ast.Attribute) and isinstance(node.ctx, ast.Store):
                    attributes.add(node.attr)
                if isinstance(node, ast.FunctionDef):
                    functions.append(node)
        self.assertFalse(methods & properties | methods & attributes | properties & attributes)
        self.assertFalse((methods | properties | attributes) & (METHODS - {"count", "index", "find"}))
        for node in functions:
            if any(isinstance(inner, ast.Yield) for inner in ast.walk(node)):
                self.assertEqual([other.name for other in functions].count(node.name), 1, node.name)

    def test_only_own_errors_are_caught(self):
        own = set(bound_names(ast.parse(text_of(os.path.join(PACKAGE, "errors.py")))))
        for path, tree in parsed().items():
            for node in ast.walk(tree):
                if isinstance(node, ast.ExceptHandler):
                    caught = node.type.elts if isinstance(node.type, ast.Tuple) else [node.type]
                    self.assertTrue({word.id for word in caught} <= own, (path, node.lineno))
                    self.assertIsNone(node.name, (path, node.lineno))
                if isinstance(node, ast.Try):
                    self.assertFalse(node.finalbody or node.orelse, (path, node.lineno))
                if isinstance(node, ast.Raise):
                    self.assertTrue(isinstance(node.exc, ast.Call) and node.exc.func.id in own and node.cause is None)

    def test_attributes_are_no_properties(self):
        """No attribute has the name of a property, which could not be assigned."""
        properties = {node.name for tree in parsed().values() for node in ast.walk(tree)
                      if isinstance(node, ast.FunctionDef) and node.decorator_list}
        for path, tree in parsed().items():
            for node in ast.walk(tree):
                if isinstance(node, ast.Attribute) and isinstance(node.ctx, ast.Store):
                    self.assertNotIn(node.attr, properties, (path, node.lineno))
                    self.assertIsInstance(node.value, ast.Name, (path, node.lineno))


class NamesTest(unittest.TestCase):
    def test_imports(self):
        trees = parsed()
        by_name = {module_name(path): tree for path, tree in trees.items()}
        ahead = {}
        for path, tree in trees.items():
            ahead[module_name(path)] = []
            for node in ast.walk(tree):
                if not isinstance(node, ast.ImportFrom):
                    continue
                self.assertIn(node, tree.body, path)
                names = [alias.name for alias in node.names]
                self.assertTrue(all(alias.asname is None for alias in node.names), path)
                if node.module in LIBRARY:
                    self.assertTrue(set(names) <= LIBRARY[node.module], path)
                else:
                    self.assertTrue(set(names) <= set(bound_names(by_name[node.module])), (path, node.module, names))
                    ahead[module_name(path)].append(node.module)
        done = []
        while len(done) < len(ahead):
            ready = [name for name in ahead if name not in done and all(other in done for other in ahead[name])]
            self.assertTrue(ready, "files import from each other")
            done += ready

    def test_names_are_bound_once_and_used(self):
        for path, tree in parsed().items():
            names = bound_names(tree) + imported_names(tree)
            self.assertEqual(len(set(names)), len(names), path)
            used = {node.id for node in ast.walk(tree) if isinstance(node, ast.Name) and isinstance(node.ctx, ast.Load)}
            for name in imported_names(tree):
                self.assertIn(name, used, path)

    def test_local_names(self):
        for path, tree in parsed().items():
            classes = [node.name for node in tree.body if isinstance(node, ast.ClassDef)]
            barred = set(classes + imported_names(tree) + dir(builtins) + keyword.kwlist) | BARRED
            own = set(bound_names(tree))
            for name, line in local_names(tree):
                self.assertFalse(name in barred or name in own, (path, line, name))
                self.assertRegex(name, r"^(_|[a-z][a-z0-9_]*|self)$", path)
            self.assertFalse(own & (set(dir(builtins)) | BARRED), path)

    def test_all_names_are_known(self):
        for path, tree in parsed().items():
            known = set(bound_names(tree) + imported_names(tree)) | BUILTINS | ERRORS | {"property"}
            known |= {name for name, _ in local_names(tree)}
            for node in ast.walk(tree):
                if isinstance(node, ast.Name):
                    self.assertIn(node.id, known, (path, node.lineno))
                    self.assertFalse(node.id == "_" and isinstance(node.ctx, ast.Load), (path, node.lineno))

    def test_local_variables_are_read(self):
        for path, tree in parsed().items():
            for function in ast.walk(tree):
                if not isinstance(function, ast.FunctionDef):
                    continue
                names = [node for node in ast.walk(function) if isinstance(node, ast.Name)]
                read = {node.id for node in names if isinstance(node.ctx, ast.Load)}
                for node in names:
                    loose = isinstance(node.ctx, ast.Store) and node.id not in read | {"_"}
                    self.assertFalse(loose and node.id not in spared(function), (path, node.lineno, node.id))


def spared(function):
    """Names in the targets of comprehensions and loops over pairs, where one of the pair may be left unread."""
    return {name.id for node in ast.walk(function) if isinstance(node, (ast.comprehension, ast.For))
            and isinstance(node.target, ast.Tuple) for name in ast.walk(node.target) if isinstance(name, ast.Name)}


class RowsTest(unittest.TestCase):
    def test_module_level(self):
        for path, tree in parsed().items():
            for at, node in enumerate(tree.body):
                first = at == 0 and isinstance(node, ast.Expr) and isinstance(node.value, ast.Constant)
                kinds = (ast.ImportFrom, ast.FunctionDef, ast.ClassDef, ast.Assign)
                self.assertTrue(first or isinstance(node, kinds), (path, node.lineno))
                if isinstance(node, ast.Assign):
                    self.assertEqual(len(node.targets), 1)
                    self.assertIsInstance(node.targets[0], ast.Name)
                    for inner in ast.walk(node.value):
                        self.assertNotIsInstance(inner, (ast.Call, ast.Lambda, ast.ListComp, ast.DictComp), path)

    def test_statements_and_expressions(self):
        for path, tree in parsed().items():
            for node in ast.walk(tree):
                if isinstance(node, ast.stmt):
                    self.assertIsInstance(node, STATEMENTS, (path, node.lineno))
                if isinstance(node, ast.expr):
                    self.assertIsInstance(node, EXPRESSIONS, (path, node.lineno))
                if isinstance(node, (ast.operator, ast.unaryop, ast.boolop)):
                    self.assertIsInstance(node, OPERATORS, path)
                if isinstance(node, ast.Constant):
                    self.assertIn(type(node.value), (int, str, bool, type(None)), (path, node.lineno))

    def test_exponents_and_identity(self):
        for path, tree in parsed().items():
            for node in ast.walk(tree):
                if isinstance(node, ast.BinOp) and isinstance(node.op, ast.Pow):
                    self.assertTrue(isinstance(node.right, ast.Constant) and 0 <= node.right.value <= 64, path)
                if isinstance(node, ast.Compare):
                    for word, right in zip(node.ops, node.comparators):
                        if isinstance(word, (ast.Is, ast.IsNot)):
                            self.assertTrue(isinstance(right, ast.Constant) and right.value is None, path)

    def test_calls(self):
        methods = set(METHODS)
        for tree in parsed().values():
            for node in ast.walk(tree):
                if isinstance(node, ast.ClassDef):
                    methods |= {inner.name for inner in node.body if isinstance(inner, ast.FunctionDef)}
        for path, tree in parsed().items():
            for node in ast.walk(tree):
                if not isinstance(node, ast.Call):
                    continue
                self.assertIsInstance(node.func, (ast.Name, ast.Attribute), (path, node.lineno))
                for given in node.args:
                    if isinstance(given, ast.Starred):
                        self.assertIsInstance(given.value, (ast.Name, ast.Attribute), (path, node.lineno))
                name = node.func.attr if isinstance(node.func, ast.Attribute) else node.func.id
                if isinstance(node.func, ast.Attribute):
                    self.assertIn(name, methods, (path, node.lineno))
                    self.assertFalse(node.keywords and name in METHODS, (path, node.lineno))
                if name in BUILTINS:
                    allowed = {"max": {"default"}, "min": {"default"}, "sorted": {"reverse"}}.get(name, set())
                    self.assertTrue({word.arg for word in node.keywords} <= allowed, (path, node.lineno))

    def test_views_are_iterated_at_once(self):
        for path, tree in parsed().items():
            heads = [node.iter for node in ast.walk(tree) if isinstance(node, (ast.For, ast.comprehension))]
            for node in ast.walk(tree):
                if isinstance(node, ast.Call) and isinstance(node.func, ast.Name):
                    inner = node.args if node.func.id in ("list", "tuple", "enumerate", "zip", "sorted") else []
                    heads += inner
            for node in ast.walk(tree):
                if isinstance(node, ast.Call) and isinstance(node.func, ast.Name):
                    if node.func.id in ("zip", "enumerate", "reversed", "range"):
                        self.assertIn(node, heads, (path, node.lineno))

    def test_loops_leave_what_they_go_over(self):
        for path, tree in parsed().items():
            for node in ast.walk(tree):
                if isinstance(node, ast.For):
                    changed = set(changed_names(node.body))
                    self.assertFalse(changed & set(iterated_names(node.iter)), (path, node.lineno))
                if isinstance(node, (ast.ListComp, ast.DictComp)):
                    heads = [name for part in node.generators for name in iterated_names(part.iter)]
                    self.assertFalse(set(changed_names([node])) & set(heads), (path, node.lineno))

    def test_sets(self):
        for path, tree in parsed().items():
            inside = [node.args[0] for node in ast.walk(tree) if isinstance(node, ast.Call)
                      and isinstance(node.func, ast.Name) and node.func.id in ("len", "sorted") and node.args]
            kept = [node.value for node in ast.walk(tree) if isinstance(node, ast.Assign)
                    and isinstance(node.targets[0], ast.Name)]
            for node in ast.walk(tree):
                if isinstance(node, ast.Call) and isinstance(node.func, ast.Name) and node.func.id == "set":
                    self.assertTrue(node in inside or node in kept, (path, node.lineno))

    def test_tables_are_read_only(self):
        for path, tree in parsed().items():
            tables = {node.targets[0].id for node in tree.body
                      if isinstance(node, ast.Assign) and isinstance(node.value, (ast.Dict, ast.List))}
            functions = [node for node in ast.walk(tree) if isinstance(node, ast.FunctionDef)]
            self.assertFalse(tables & set(changed_names(functions)), path)
            for node in ast.walk(tree):
                if isinstance(node, ast.Call):
                    for given in node.args:
                        self.assertFalse(isinstance(given, ast.Name) and given.id in tables, (path, node.lineno))


if __name__ == "__main__":
    unittest.main()
