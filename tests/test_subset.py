"""The rules of the subset of Python that can be seen in a file by itself."""

import ast
import builtins
import pathlib
import re
import unittest

PACKAGE = pathlib.Path(__file__).resolve().parent.parent / "secondruns"

BUILTINS = set(
    "len range enumerate zip min max sum abs sorted reversed int str bool bytes list tuple dict set frozenset"
    " isinstance ord repr any all divmod pow iter next map super property staticmethod classmethod"
    " Exception ValueError TypeError KeyError IndexError LookupError ZeroDivisionError ArithmeticError"
    " OverflowError RuntimeError NotImplementedError AttributeError StopIteration NotImplemented".split())

SPECIAL = set(
    "__init__ __eq__ __repr__ __str__ __len__ __enter__ __exit__ __call__ __iter__ __ne__ __add__ __sub__"
    " __mul__ __pow__ __contains__ __getitem__ __setitem__ __iadd__ __bool__ __neg__".split())

BARRED_WORDS = set(
    "type typing typing_extensions enum Enum IntEnum StrEnum Flag IntFlag Generic Protocol ABC ABCMeta"
    " namedtuple NamedTuple TypedDict TYPE_CHECKING abstractmethod _wall _WallAttr".split())

BARRED_NAMES = set(
    "register mro elements open input law version_info with_traceback add_note attrgetter breakpoint builtins"
    " compile copyright credits delattr dir eval exec exit gc getattr globals hasattr help id importlib license"
    " locals methodcaller os quit setattr type vars sys".split())

LIBRARY = {
    "heapq": {"heappush", "heappop", "heapify", "heapreplace", "heappushpop"},
    "math": {"gcd", "lcm", "isqrt", "comb", "perm", "factorial"},
    "itertools": {"product", "combinations", "permutations", "chain", "accumulate", "pairwise", "islice",
                  "zip_longest"},
    "collections": {"defaultdict"},
}

STATEMENTS = (
    ast.FunctionDef, ast.ClassDef, ast.Return, ast.Delete, ast.Assign, ast.AugAssign, ast.AnnAssign, ast.For,
    ast.While, ast.If, ast.With, ast.Match, ast.Raise, ast.Try, ast.Assert, ast.ImportFrom, ast.Nonlocal,
    ast.Expr, ast.Pass, ast.Break, ast.Continue,
)


def files():
    return sorted(path for path in PACKAGE.rglob("*") if "__pycache__" not in path.parts)


def bound_names(tree):
    """All names that a file gives a meaning, but for methods and attributes."""
    methods = {id(item) for node in ast.walk(tree) if isinstance(node, ast.ClassDef) for item in node.body}
    found = []
    for node in ast.walk(tree):
        if isinstance(node, ast.Name) and not isinstance(node.ctx, ast.Load):
            found.append(node.id)
        if isinstance(node, ast.arg):
            found.append(node.arg)
        if isinstance(node, (ast.FunctionDef, ast.ClassDef)) and id(node) not in methods:
            found.append(node.name)
        if isinstance(node, ast.ImportFrom):
            found.extend(alias.asname or alias.name for alias in node.names)
    return found


def parents(tree):
    return {child: node for node in ast.walk(tree) for child in ast.iter_child_nodes(node)}


class Subset(unittest.TestCase):
    def setUp(self):
        self.trees = {path: ast.parse(path.read_text()) for path in files()}

    def each_node(self):
        for path, tree in self.trees.items():
            for node in ast.walk(tree):
                yield f"{path.name}:{getattr(node, 'lineno', 0)}", node

    def test_files(self):
        self.assertTrue(files())
        for path in files():
            self.assertTrue(path.is_file() and path.suffix == ".py", path)
            self.assertRegex(path.stem, "^[a-z_][a-z0-9_]*$")

    def test_lines_and_characters(self):
        for path in files():
            text = path.read_text()
            lines = text.split("\n")
            self.assertLessEqual(len(lines), 400, path)
            self.assertIsNone(re.search("[^ -~\n]", text), path)
            for line in lines:
                self.assertLessEqual(len(line), 120, line)

    def test_functions_have_at_most_40_lines(self):
        for where, node in self.each_node():
            if isinstance(node, ast.FunctionDef):
                self.assertLessEqual(node.end_lineno - node.lineno + 1, 40, where)

    def test_imports(self):
        for where, node in self.each_node():
            self.assertNotIsInstance(node, ast.Import, where)
            if isinstance(node, ast.ImportFrom):
                self.assertEqual(node.level, 0, where)
                names = {alias.name for alias in node.names}
                if node.module in LIBRARY:
                    self.assertLessEqual(names, LIBRARY[node.module], where)
                else:
                    self.check_own_import(where, node.module, names)

    def check_own_import(self, where, module, names):
        self.assertTrue(module.startswith("secondruns."), where)
        tree = self.trees[PACKAGE / (module.split(".")[1] + ".py")]
        defined = {node.name for node in tree.body if isinstance(node, (ast.FunctionDef, ast.ClassDef))}
        defined |= {node.targets[0].id for node in tree.body if isinstance(node, ast.Assign)}
        self.assertLessEqual(names, defined, where)

    def test_no_two_files_import_from_each_other(self):
        needs = {}
        for path, tree in self.trees.items():
            needs[path.stem] = {node.module.split(".")[1] for node in tree.body
                                if isinstance(node, ast.ImportFrom) and node.module.startswith("secondruns.")}
        while needs:
            free = [name for name, others in needs.items() if not others & set(needs)]
            self.assertTrue(free, needs)
            needs = {name: others for name, others in needs.items() if name not in free}

    def test_module_level(self):
        for path, tree in self.trees.items():
            for node in tree.body:
                docstring = isinstance(node, ast.Expr) and isinstance(node.value, ast.Constant)
                self.assertTrue(docstring or isinstance(
                    node, (ast.ImportFrom, ast.FunctionDef, ast.ClassDef, ast.Assign)), (path, node.lineno))

    def test_statements_and_expressions(self):
        barred = (ast.Global, ast.AsyncFunctionDef, ast.Await, ast.Div, ast.MatMult, ast.TryStar)
        for where, node in self.each_node():
            if isinstance(node, ast.stmt):
                self.assertIsInstance(node, STATEMENTS, where)
            self.assertNotIsInstance(node, barred, where)
            if isinstance(node, ast.Constant):
                self.assertNotIsInstance(node.value, (float, complex), where)
            if isinstance(node, (ast.FunctionDef, ast.ClassDef)):
                for decorator in node.decorator_list:
                    self.assertIn(ast.unparse(decorator), ("classmethod", "staticmethod", "property"), where)

    def test_generator_expressions_do_not_stand_beside_own_equality(self):
        for where, node in self.each_node():
            self.assertNotIsInstance(node, ast.GeneratorExp, where)

    def test_names(self):
        every_builtin = {name for name in vars(builtins) if not name.startswith("_")}
        for path, tree in self.trees.items():
            bound = bound_names(tree)
            for name in bound:
                self.assertNotIn(name, every_builtin | BARRED_NAMES, path)
            for node in ast.walk(tree):
                if isinstance(node, ast.Name) and node.id in every_builtin and node.id not in bound:
                    self.assertIn(node.id, BUILTINS, path)
                if isinstance(node, (ast.Name, ast.Attribute, ast.FunctionDef)):
                    name = getattr(node, "id", None) or getattr(node, "attr", None) or getattr(node, "name", None)
                    if name.startswith("__"):
                        self.assertIn(name, SPECIAL, path)

    def test_no_name_is_that_of_an_import_or_a_class_of_its_file(self):
        for path, tree in self.trees.items():
            taken = [alias.name for node in tree.body if isinstance(node, ast.ImportFrom) for alias in node.names]
            taken += [node.name for node in tree.body if isinstance(node, ast.ClassDef)]
            for name in taken:
                self.assertEqual(bound_names(tree).count(name), 1, (path, name))

    def test_words_that_do_not_occur(self):
        for path, tree in self.trees.items():
            code = ast.unparse(without_docstrings(tree))
            self.assertFalse(set(re.findall(r"\w+", code)) & BARRED_WORDS, path)

    def test_names_of_generators_and_class_methods_mean_nothing_else(self):
        attributes = {node.attr for _, node in self.each_node()
                      if isinstance(node, ast.Attribute) and not isinstance(node.ctx, ast.Load)}
        functions = [node for _, node in self.each_node() if isinstance(node, ast.FunctionDef)]
        plain = [node.name for node in functions if not node.decorator_list and not yields(node)]
        for node in functions:
            if yields(node):
                self.assertEqual([other.name for other in functions].count(node.name), 1, node.name)
            if yields(node) or node.decorator_list:
                self.assertNotIn(node.name, attributes)
                self.assertNotIn(node.name, plain)

    def test_no_name_is_a_method_and_an_attribute_in_one_class(self):
        for where, node in self.each_node():
            if isinstance(node, ast.ClassDef):
                methods = {item.name for item in node.body if isinstance(item, ast.FunctionDef)}
                attributes = {item.attr for item in ast.walk(node)
                              if isinstance(item, ast.Attribute) and not isinstance(item.ctx, ast.Load)}
                self.assertFalse(methods & attributes, where)

    def test_what_does_not_occur_beside_an_index_operator(self):
        for path in files():
            self.assertIsNone(re.search(r"\(type\)|Meta|metaclass=|\bkeys\(self", path.read_text()), path)

    def test_operators_do_not_add_in_place(self):
        """Beside operators, hardly any of this is allowed, so there is none of it."""
        for where, node in self.each_node():
            self.assertNotIsInstance(node, ast.AugAssign, where)

    def test_sorting(self):
        for where, node in self.each_node():
            if isinstance(node, ast.Call) and isinstance(node.func, ast.Attribute):
                self.assertNotEqual(node.func.attr, "sort", where)

    def test_stars_in_calls(self):
        for where, node in self.each_node():
            if isinstance(node, ast.Call):
                for argument in node.args:
                    if isinstance(argument, ast.Starred):
                        self.assertIsInstance(argument.value, (ast.Name, ast.List, ast.Tuple), where)
                for keyword in node.keywords:
                    self.assertIn(keyword.arg, ("key", "reverse", "default", "start"), where)

    def test_no_name_is_a_method_of_one_class_and_an_attribute_of_another(self):
        classes = [node for _, node in self.each_node() if isinstance(node, ast.ClassDef)]
        methods = {item.name for node in classes for item in node.body if isinstance(item, ast.FunctionDef)}
        attributes = {item.attr for node in classes for item in ast.walk(node)
                      if isinstance(item, ast.Attribute) and not isinstance(item.ctx, ast.Load)}
        self.assertFalse(methods & attributes)

    def test_strings(self):
        for where, node in self.each_node():
            if isinstance(node, ast.Constant) and isinstance(node.value, str):
                self.assertNotIn("%", node.value, where)
                self.assertFalse(node.value.endswith(("._", ".__")), where)
                self.assertFalse(node.value.startswith("__") and node.value.endswith("__") and node.value, where)

    def test_calls_iterated_at_once(self):
        """zip, enumerate, reversed and range stand in a loop, a comprehension or a call, or are kept."""
        for path, tree in self.trees.items():
            above = parents(tree)
            for node in ast.walk(tree):
                if isinstance(node, ast.Call) and isinstance(node.func, ast.Name):
                    if node.func.id in ("zip", "enumerate", "reversed", "range", "map"):
                        self.assertIsInstance(
                            above[node], (ast.For, ast.comprehension, ast.Call, ast.Compare, ast.Assign),
                            (path, node.lineno))


def yields(function):
    return any(isinstance(node, (ast.Yield, ast.YieldFrom)) for node in ast.walk(function))


def without_docstrings(tree):
    for node in ast.walk(tree):
        if isinstance(node, (ast.Module, ast.FunctionDef, ast.ClassDef)):
            first = node.body[0]
            if isinstance(first, ast.Expr) and isinstance(first.value, ast.Constant):
                node.body = node.body[1:] or [ast.Pass()]
    return ast.fix_missing_locations(tree)


if __name__ == "__main__":
    unittest.main()
