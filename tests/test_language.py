"""The rules of LANGUAGE.md that a look at the sources of the package can check."""

import ast
import builtins
import pathlib
import re
import unittest

PACKAGE = pathlib.Path(__file__).resolve().parent.parent / "thaumatrope"
BUILTINS = """len range enumerate zip min max sum abs sorted reversed int str bool bytes list tuple dict set
    isinstance ord repr any all divmod ValueError NotImplemented property classmethod staticmethod""".split()
METHODS = """append clear copy count endswith extend find get index insert isalnum isalpha isdigit islower
    isspace isupper items join keys ljust lower lstrip partition pop remove replace reverse rfind rjust
    rpartition rsplit rstrip setdefault split splitlines startswith strip update upper values zfill
    bit_length isascii isdecimal""".split()
SPECIAL = ["__init__", "__eq__"]
BARRED = """type typing typing_extensions enum Enum IntEnum StrEnum Flag IntFlag Generic Protocol ABC ABCMeta
    namedtuple NamedTuple TypedDict TYPE_CHECKING abstractmethod register mro elements open input law""".split()
NODES = (
    ast.Global, ast.AsyncFunctionDef, ast.AsyncFor, ast.AsyncWith, ast.Await, ast.Div, ast.GeneratorExp,
    ast.Lambda, ast.Set, ast.SetComp, ast.Import, ast.YieldFrom, ast.MatMult,
)


def files():
    return sorted(PACKAGE.glob("*.py"))


def tree_of(path):
    return ast.parse(path.read_text(encoding="ascii"))


def modules_in(tree):
    return [node for node in tree.body if isinstance(node, ast.ImportFrom)]


def names_of(tree):
    """All names that a file binds."""
    for node in ast.walk(tree):
        if isinstance(node, (ast.FunctionDef, ast.ClassDef)):
            yield node.name
        elif isinstance(node, ast.arg):
            yield node.arg
        elif isinstance(node, ast.Name) and isinstance(node.ctx, ast.Store):
            yield node.id
        elif isinstance(node, ast.alias):
            yield node.asname or node.name


def functions_in(tree):
    return [node for node in ast.walk(tree) if isinstance(node, ast.FunctionDef)]


class Sources(unittest.TestCase):
    def each(self):
        for path in files():
            yield path, tree_of(path)

    def test_the_package_contains_python_files_only(self):
        found = [path.name for path in PACKAGE.iterdir() if path.name != "__pycache__"]
        self.assertIn("__init__.py", found)
        for name in found:
            self.assertRegex(name, r"\A[a-z0-9_]+\.py\Z")

    def test_characters_and_sizes(self):
        for path, tree in self.each():
            text = path.read_bytes()
            self.assertFalse([octet for octet in text if octet != 10 and not 32 <= octet <= 126])
            lines = text.decode("ascii").splitlines()
            self.assertLessEqual(len(lines), 399)
            self.assertLessEqual(max(len(line) for line in lines), 120)
            for node in functions_in(tree):
                first = min([node.lineno] + [mark.lineno for mark in node.decorator_list])
                self.assertLessEqual(node.end_lineno - first + 1, 40, node.name)

    def test_imports_name_the_file_that_defines_the_name(self):
        graph = {}
        for path, tree in self.each():
            imports = modules_in(tree)
            self.assertEqual(len(imports), len([n for n in ast.walk(tree) if isinstance(n, ast.ImportFrom)]))
            graph[path.stem] = []
            for node in imports:
                package, _, module = node.module.partition(".")
                self.assertEqual((package, node.level), ("thaumatrope", 0))
                source = tree_of(PACKAGE / f"{module}.py")
                bound = {n.name for n in source.body if isinstance(n, (ast.FunctionDef, ast.ClassDef))}
                bound |= {n.targets[0].id for n in source.body if isinstance(n, ast.Assign)}
                self.assertLessEqual({alias.name for alias in node.names}, bound)
                graph[path.stem].append(module)
        while graph:
            free = [name for name in graph if not set(graph[name]) & set(graph)]
            self.assertTrue(free, "files import from each other")
            for name in free:
                del graph[name]

    def test_imported_names_are_used(self):
        for _, tree in self.each():
            used = {node.id for node in ast.walk(tree) if isinstance(node, ast.Name)}
            for node in modules_in(tree):
                self.assertLessEqual({alias.name for alias in node.names}, used)

    def test_module_level(self):
        for _, tree in self.each():
            bound = []
            for place, node in enumerate(tree.body):
                if isinstance(node, (ast.FunctionDef, ast.ClassDef)):
                    bound.append(node.name)
                elif isinstance(node, ast.Assign):
                    self.assertEqual([target.__class__ for target in node.targets], [ast.Name])
                    self.assertFalse([n for n in ast.walk(node) if isinstance(n, (ast.Call, ast.ListComp))])
                    bound.append(node.targets[0].id)
                elif isinstance(node, ast.Expr):
                    self.assertEqual((place, node.value.value.__class__), (0, str))
                else:
                    self.assertIsInstance(node, ast.ImportFrom)
                    bound.extend([alias.name for alias in node.names])
            self.assertEqual(len(bound), len(set(bound)))

    def test_statements_and_expressions(self):
        for _, tree in self.each():
            for node in ast.walk(tree):
                self.assertNotIsInstance(node, NODES)
                if isinstance(node, ast.Constant):
                    self.assertNotIsInstance(node.value, (float, complex))
                    if isinstance(node.value, str):
                        self.assertNotIn("%", node.value)
                if isinstance(node, ast.BinOp) and isinstance(node.op, ast.Pow):
                    self.assertIsInstance(node.right, ast.Constant)
                if isinstance(node, ast.Compare):
                    for sign, other in zip(node.ops, node.comparators):
                        if isinstance(sign, (ast.Is, ast.IsNot)):
                            self.assertIsInstance(other, ast.Constant)

    def test_names(self):
        classes = {node.name for path in files() for node in tree_of(path).body if isinstance(node, ast.ClassDef)}
        for path, tree in self.each():
            for name in names_of(tree):
                self.assertRegex(name, r"\A(_|_?[A-Za-z][A-Za-z0-9_]*|__init__|__eq__)\Z")
                self.assertNotIn(name, dir(builtins))
                self.assertNotIn(name, BARRED)
                if name.startswith("__"):
                    self.assertIn(name, SPECIAL)
            for node in functions_in(tree):
                arguments = node.args.args + node.args.kwonlyargs
                self.assertFalse({argument.arg for argument in arguments} & classes)
            self.assertFalse(re.search(r"\b_wall|_WallAttr", path.read_text()))

    def test_no_local_name_is_that_of_an_import_or_a_class(self):
        for _, tree in self.each():
            outer = {alias.name for node in modules_in(tree) for alias in node.names}
            outer |= {node.name for node in tree.body if isinstance(node, ast.ClassDef)}
            for function in functions_in(tree):
                inner = {node.arg for node in ast.walk(function) if isinstance(node, ast.arg)}
                inner |= {node.id for node in ast.walk(function)
                          if isinstance(node, ast.Name) and isinstance(node.ctx, ast.Store)}
                inner |= {node.name for node in ast.walk(function)
                          if isinstance(node, ast.FunctionDef) and node is not function}
                self.assertFalse(inner & outer, function.name)

    def test_no_name_is_a_method_and_an_attribute_of_a_class(self):
        for _, tree in self.each():
            for made in [node for node in tree.body if isinstance(node, ast.ClassDef)]:
                methods = {node.name for node in made.body if isinstance(node, ast.FunctionDef)}
                attributes = {node.attr for node in ast.walk(made)
                              if isinstance(node, ast.Attribute) and isinstance(node.ctx, ast.Store)}
                self.assertFalse(methods & attributes, made.name)

    def test_calls(self):
        trees = [tree_of(path) for path in files()]
        own = {node.name for tree in trees for node in functions_in(tree)}
        for _, tree in self.each():
            bound = set(names_of(tree))
            for node in ast.walk(tree):
                if isinstance(node, ast.Name) and node.id not in bound:
                    self.assertIn(node.id, BUILTINS)
                if isinstance(node, ast.Call) and isinstance(node.func, ast.Attribute):
                    self.assertIn(node.func.attr, list(own) + METHODS)

    def test_decorators_and_class_bodies(self):
        for _, tree in self.each():
            for node in ast.walk(tree):
                if isinstance(node, ast.FunctionDef):
                    self.assertLessEqual({mark.id for mark in node.decorator_list}, {"property", "classmethod"})
                if isinstance(node, ast.ClassDef):
                    self.assertEqual(node.decorator_list, [])
                    for place, part in enumerate(node.body):
                        docstring = place == 0 and isinstance(part, ast.Expr)
                        self.assertTrue(docstring or isinstance(part, ast.FunctionDef))


if __name__ == "__main__":
    unittest.main()
