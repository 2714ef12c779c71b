"""Those rules of the language of the program that can be seen from single places in its files.

The package is written in a small subset of Python. This does not check all rules, only those that are easily broken.
"""

import ast
import builtins
import pathlib
import re
import unittest

PACKAGE = pathlib.Path(__file__).resolve().parent.parent / "lastprices"

BUILTINS = set("""len range enumerate zip min max sum abs sorted reversed int str bool bytes list tuple dict set frozenset
    isinstance ord repr any all divmod iter next map Exception ValueError TypeError KeyError IndexError LookupError
    ZeroDivisionError ArithmeticError OverflowError RuntimeError NotImplementedError AttributeError StopIteration
    NotImplemented property staticmethod classmethod super""".split())

METHODS = set("""append clear copy count endswith extend find get index insert isalnum isalpha isdigit islower isspace
    isupper items join keys ljust lower lstrip partition pop remove replace reverse rfind rjust rpartition rsplit rstrip
    setdefault split splitlines startswith strip update upper values zfill bit_length title capitalize swapcase casefold
    center expandtabs removeprefix removesuffix rindex isascii isdecimal isnumeric istitle isidentifier isprintable
    translate add discard sort""".split())

DOUBLE = set("""__init__ __eq__ __repr__ __str__ __len__ __enter__ __exit__ __call__ __iter__ __lt__ __le__ __gt__ __ge__
    __ne__ __add__ __sub__ __mul__ __floordiv__ __mod__ __pow__ __and__ __or__ __xor__ __lshift__ __rshift__ __neg__
    __pos__ __invert__ __abs__ __bool__ __contains__ __getitem__ __setitem__""".split())

BARRED = re.compile(r"\b(type|typing|typing_extensions|enum|Enum|IntEnum|StrEnum|Flag|IntFlag|Generic|Protocol|ABC"
    r"|ABCMeta|namedtuple|NamedTuple|TypedDict|TYPE_CHECKING|abstractmethod|register|mro|elements|open|input|law"
    r"|version_info|with_traceback|add_note)\b")

LIBRARY = {"heapq": ("heappush", "heappop", "heapify", "heapreplace", "heappushpop"),
    "math": ("gcd", "lcm", "isqrt", "comb", "perm", "factorial")}

MODIFYING = ("append", "clear", "extend", "insert", "pop", "remove", "reverse", "setdefault", "update", "sort", "add",
    "discard")

# What objects of the package are asked for by a sign, so that it has to change nothing.
ASKED = tuple(sorted(DOUBLE - {"__init__", "__call__", "__iter__", "__enter__", "__exit__", "__setitem__"}))

TAKING_LISTS = ("any", "all", "min", "max", "sum", "sorted")


def sources():
    """A dict from the files of the package to their texts."""
    return {path: path.read_text(encoding="utf-8") for path in sorted(PACKAGE.rglob("*.py"))}


def module_of(path):
    """The full name of the module of a file."""
    parts = path.relative_to(PACKAGE.parent).with_suffix("").parts
    return ".".join(parts[:-1] if parts[-1] == "__init__" else parts)


def defined_in(tree):
    """The names that a file defines itself."""
    names = {node.name for node in tree.body if isinstance(node, (ast.FunctionDef, ast.ClassDef))}
    for node in tree.body:
        if isinstance(node, ast.Assign):
            names |= {target.id for target in node.targets}
    return names


def calls_in(node):
    """The calls in a function."""
    return [part for part in ast.walk(node) if isinstance(part, ast.Call)]


def own_lists(function):
    """The names to which a function assigns only lists and dicts that it creates itself."""
    made = {}
    for node in ast.walk(function):
        if isinstance(node, ast.Assign):
            for target in node.targets:
                if isinstance(target, ast.Name):
                    literal = isinstance(node.value, (ast.List, ast.ListComp, ast.Dict))
                    call = isinstance(node.value, ast.Call) and ast.unparse(node.value.func) in ("list", "dict", "sorted")
                    made[target.id] = made.get(target.id, True) and (literal or call)
    return [name for name, own in made.items() if own]


class LanguageTest(unittest.TestCase):
    def setUp(self):
        self.trees = {path: ast.parse(text) for path, text in sources().items()}

    def nodes(self, *kinds):
        """All nodes of some kinds, each with where it stands."""
        for path, tree in self.trees.items():
            for node in ast.walk(tree):
                if isinstance(node, kinds):
                    yield f"{path.name}:{getattr(node, 'lineno', '?')}", node

    def test_files(self):
        self.assertGreater(len(self.trees), 0)
        self.assertLessEqual(len(self.trees), 100)
        for path in PACKAGE.rglob("*"):
            # Python's caches, which git ignores, are no files of the package.
            if "__pycache__" in path.parts:
                continue
            if path.is_dir():
                self.assertTrue((path / "__init__.py").is_file(), path)
            self.assertTrue(path.is_dir() or path.suffix == ".py", path)
            self.assertRegex(path.stem, r"^([a-z][a-z0-9_]*|__init__|__main__)$")

    def test_lines_and_characters(self):
        for path, text in sources().items():
            self.assertLessEqual(len(text.split("\n")), 400, path)
            for number, line in enumerate(text.split("\n"), start=1):
                self.assertLessEqual(len(line), 120, f"{path.name}:{number}")
                self.assertRegex(line, r"^[ -~]*$", f"{path.name}:{number}")

    def test_functions_are_short(self):
        for place, node in self.nodes(ast.FunctionDef):
            self.assertLessEqual(node.end_lineno - node.lineno + 1, 40, place)

    def test_imports(self):
        trees = {module_of(path): tree for path, tree in self.trees.items()}
        imported = {}
        for name, tree in trees.items():
            tops = [node for node in tree.body if isinstance(node, ast.ImportFrom)]
            every = [node for node in ast.walk(tree) if isinstance(node, (ast.Import, ast.ImportFrom))]
            self.assertEqual(tops, every, name)
            for node in tops:
                told = LIBRARY.get(node.module) or defined_in(trees[node.module])
                for alias in node.names:
                    self.assertIsNone(alias.asname, name)
                    self.assertIn(alias.name, told, name)
            imported[name] = {node.module for node in tops} - set(LIBRARY)
        done = set()
        while len(done) < len(imported):
            free = [name for name in imported if name not in done and imported[name] <= done]
            self.assertTrue(free, "files import from each other")
            done |= set(free)

    def test_module_level(self):
        for path, tree in self.trees.items():
            for at, node in enumerate(tree.body):
                if isinstance(node, ast.Assign):
                    self.assertEqual([target.__class__ for target in node.targets], [ast.Name], path)
                    self.assertFalse([part for part in ast.walk(node.value) if isinstance(part, ast.Call)], path)
                elif isinstance(node, ast.Expr):
                    self.assertEqual((at, isinstance(node.value, ast.Constant)), (0, True), path)
                else:
                    self.assertIsInstance(node, (ast.ImportFrom, ast.FunctionDef, ast.ClassDef), path)

    def test_builtins_that_are_used(self):
        for place, node in self.nodes(ast.Name):
            if hasattr(builtins, node.id):
                self.assertIn(node.id, BUILTINS, place)
                self.assertIsInstance(node.ctx, ast.Load, place)
        for place, node in self.nodes(ast.arg):
            self.assertFalse(hasattr(builtins, node.arg), place)

    def test_methods_that_are_called(self):
        own = {node.name for _, node in self.nodes(ast.FunctionDef)}
        for place, node in self.nodes(ast.Call):
            if isinstance(node.func, ast.Attribute):
                self.assertIn(node.func.attr, METHODS | own, place)

    def test_double_underscores(self):
        for place, node in self.nodes(ast.FunctionDef):
            if node.name.startswith("__"):
                self.assertIn(node.name, DOUBLE, place)
        for place, node in self.nodes(ast.Attribute):
            if node.attr.startswith("__"):
                self.assertIn(node.attr, ("__init__", "__class__", "__name__"), place)

    def test_statements_and_expressions(self):
        barred = (ast.Global, ast.AsyncFunctionDef, ast.AsyncFor, ast.AsyncWith, ast.Await, ast.Div, ast.MatMult)
        self.assertEqual([place for place, _ in self.nodes(*barred)], [])
        for place, node in self.nodes(ast.Constant):
            self.assertNotIsInstance(node.value, (float, complex), place)
            if isinstance(node.value, str):
                self.assertNotIn("%", node.value, place)
        for place, node in self.nodes(ast.BinOp):
            if isinstance(node.op, ast.Pow):
                self.assertIsInstance(node.right, ast.Constant, place)
                self.assertIn(node.right.value, range(65), place)

    def test_lists_instead_of_generator_expressions(self):
        for place, node in self.nodes(ast.Call):
            if isinstance(node.func, ast.Name) and node.func.id in TAKING_LISTS:
                self.assertFalse([part for part in node.args if isinstance(part, ast.GeneratorExp)], place)

    def test_is_stands_beside_none_true_and_false(self):
        for place, node in self.nodes(ast.Compare):
            if any(isinstance(sign, (ast.Is, ast.IsNot)) for sign in node.ops):
                self.assertIsInstance(node.comparators[0], ast.Constant, place)
                self.assertIn(node.comparators[0].value, (None, True, False), place)

    def test_decorators_and_classes(self):
        for place, node in self.nodes(ast.FunctionDef, ast.ClassDef):
            for part in node.decorator_list:
                self.assertIn(ast.unparse(part).rpartition(".")[2],
                    ("property", "classmethod", "staticmethod", "setter"), place)
        for place, node in self.nodes(ast.ClassDef):
            self.assertFalse(node.decorator_list or node.keywords, place)

    def test_names_that_are_not_used(self):
        for place, node in self.nodes(ast.Name, ast.Attribute, ast.arg, ast.FunctionDef, ast.ClassDef, ast.alias):
            for field in ("id", "attr", "arg", "name"):
                self.assertIsNone(BARRED.search(str(getattr(node, field, ""))), place)

    def test_sets_stand_where_they_are_used_at_once(self):
        for path, tree in self.trees.items():
            parents = {child: node for node in ast.walk(tree) for child in ast.iter_child_nodes(node)}
            for node in ast.walk(tree):
                if isinstance(node, ast.Call) and isinstance(node.func, ast.Name) and node.func.id == "set":
                    above = parents[node]
                    names = isinstance(above, ast.Assign) or isinstance(above, ast.Compare)
                    calls = isinstance(above, ast.Call) and ast.unparse(above.func) in ("sorted", "len")
                    self.assertTrue(names or calls, f"{path.name}:{node.lineno}")

    def test_names_of_properties(self):
        properties = set()
        methods = set()
        for _, node in self.nodes(ast.ClassDef):
            for part in node.body:
                if isinstance(part, ast.FunctionDef):
                    told = [ast.unparse(decorator) for decorator in part.decorator_list]
                    (properties if "property" in told else methods).add(part.name)
        assigned = {node.attr for _, node in self.nodes(ast.Attribute) if isinstance(node.ctx, ast.Store)}
        self.assertGreater(len(properties), 0)
        for names in (methods, assigned, METHODS):
            self.assertEqual(properties & names, set())

    def test_what_is_called(self):
        properties = {part.name for _, node in self.nodes(ast.ClassDef) for part in node.body
            if isinstance(part, ast.FunctionDef) and "property" in [ast.unparse(told) for told in part.decorator_list]}
        for place, node in self.nodes(ast.Call):
            # Objects are called by a name, not where they are told by a call or a property.
            self.assertIsInstance(node.func, (ast.Name, ast.Attribute), place)
            if isinstance(node.func, ast.Attribute):
                self.assertNotIn(node.func.attr, properties, place)
            for part in node.args:
                if isinstance(part, ast.Starred):
                    self.assertIsInstance(part.value, (ast.Name, ast.Attribute), place)
                    self.assertNotIn(getattr(part.value, "attr", None), properties, place)

    def test_names_of_methods_and_attributes(self):
        methods = {part.name for _, node in self.nodes(ast.ClassDef) for part in node.body
            if isinstance(part, ast.FunctionDef)}
        assigned = {node.attr for _, node in self.nodes(ast.Attribute) if isinstance(node.ctx, ast.Store)}
        self.assertEqual(methods & assigned, set())
        read = {node.attr for _, node in self.nodes(ast.Attribute)}
        self.assertEqual(read - assigned - methods - METHODS - DOUBLE - {"__class__", "__name__"}, set())

    def test_targets_have_different_names(self):
        for place, node in self.nodes(ast.Tuple):
            if isinstance(node.ctx, ast.Store):
                names = [part.id for part in ast.walk(node) if isinstance(part, ast.Name) and isinstance(part.ctx, ast.Store)]
                self.assertEqual(len(names), len(set(names)), place)

    def test_what_is_iterated_at_once(self):
        once = ("zip", "enumerate", "reversed", "map", "iter")
        for path, tree in self.trees.items():
            parents = {child: node for node in ast.walk(tree) for child in ast.iter_child_nodes(node)}
            for node in ast.walk(tree):
                if isinstance(node, ast.Call):
                    name = node.func.attr if isinstance(node.func, ast.Attribute) else ast.unparse(node.func)
                    views = isinstance(node.func, ast.Attribute) and name in ("items", "keys", "values")
                    if views or name in once:
                        above = parents[node]
                        loop = isinstance(above, (ast.For, ast.comprehension)) and above.iter is node
                        call = isinstance(above, ast.Call) and ast.unparse(above.func) in ("list", "tuple", "dict", "sorted", "enumerate")
                        told = isinstance(above, ast.Return) and name == "iter"
                        self.assertTrue(loop or call or told, f"{path.name}:{node.lineno}")
                    if name == "reversed":
                        self.assertIn(ast.unparse(node.args[0].func), ("range", "list"), f"{path.name}:{node.lineno}")

    def test_local_names_are_not_those_of_the_file(self):
        for path, tree in self.trees.items():
            tops = defined_in(tree) | {alias.name for node in tree.body if isinstance(node, ast.ImportFrom) for alias in node.names}
            for node in ast.walk(tree):
                if isinstance(node, (ast.FunctionDef, ast.Lambda)):
                    names = {part.arg for part in ast.walk(node) if isinstance(part, ast.arg)}
                    names |= {part.id for part in ast.walk(node) if isinstance(part, ast.Name) and isinstance(part.ctx, ast.Store)}
                    self.assertEqual(names & tops, set(), f"{path.name}:{node.lineno}")

    def test_names_of_caught_errors(self):
        for place, node in self.nodes(ast.FunctionDef):
            caught = [part.name for part in ast.walk(node) if isinstance(part, ast.ExceptHandler) and part.name]
            others = {part.arg for part in ast.walk(node) if isinstance(part, ast.arg)}
            others |= {part.id for part in ast.walk(node) if isinstance(part, ast.Name) and isinstance(part.ctx, ast.Store)}
            self.assertEqual(len(caught), len(set(caught) - others), place)

    def test_tables_of_translations(self):
        for path, tree in self.trees.items():
            used = {ast.unparse(node.args[0]) for node in ast.walk(tree) if isinstance(node, ast.Call)
                and isinstance(node.func, ast.Attribute) and node.func.attr == "translate"}
            for node in ast.walk(tree):
                if isinstance(node, ast.Assign) and ast.unparse(node.targets[0]) in used:
                    self.assertIsInstance(node.value, ast.Dict, path)
                    used.discard(ast.unparse(node.targets[0]))
            self.assertEqual(used, set(), path)

    def test_classes_with_items_say_that_they_are_not_iterated_over(self):
        for place, node in self.nodes(ast.ClassDef):
            names = {part.name for part in node.body if isinstance(part, ast.FunctionDef)}
            self.assertTrue("__getitem__" not in names or "__iter__" in names, place)

    def test_what_operators_and_properties_run_changes_nothing(self):
        functions = {}
        waiting = []
        for place, node in self.nodes(ast.FunctionDef):
            functions.setdefault(node.name, []).append((place, node))
            if node.name in ASKED or "property" in [ast.unparse(part) for part in node.decorator_list]:
                waiting.append((place, node))
        for _, node in self.nodes(ast.ClassDef):
            functions[node.name] = [("", part) for part in node.body
                if isinstance(part, ast.FunctionDef) and part.name == "__init__"]
        seen = []
        while waiting:
            place, node = waiting.pop()
            if node in seen:
                continue
            seen.append(node)
            own = own_lists(node)
            for part in ast.walk(node):
                changed = isinstance(getattr(part, "ctx", None), (ast.Store, ast.Del))
                if changed and isinstance(part, ast.Subscript):
                    self.assertIn(ast.unparse(part.value), own, place)
                if changed and isinstance(part, ast.Attribute):
                    self.assertEqual((node.name, ast.unparse(part.value)), ("__init__", "self"), place)
                self.assertNotIsInstance(part, ast.AugAssign, place)
            parameters = [argument.arg for argument in node.args.args]
            for call in calls_in(node):
                name = call.func.attr if isinstance(call.func, ast.Attribute) else ast.unparse(call.func)
                if isinstance(call.func, ast.Attribute) and name in MODIFYING:
                    self.assertIn(ast.unparse(call.func.value), own, place)
                if isinstance(call.func, ast.Name):
                    self.assertTrue(name == "cls" or name not in parameters, place)
                waiting += functions.get(name, [])
        self.assertGreater(len(seen), 20)
