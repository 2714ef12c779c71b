"""That loops of the package do not change what they iterate over, under whatever name, nor lists by items of them."""

import ast
import unittest

from tests.test_language import MODIFYING, sources

# What these make is a list of its own, or nothing that can be changed.
OWN = ("list", "tuple", "sorted", "range", "dict", "set")


def functions_in(text):
    """The functions and methods in the text of a file."""
    return [node for node in ast.walk(ast.parse(text)) if isinstance(node, ast.FunctionDef)]


def roots(node):
    """The names and attributes of which a value may be a part, or which it may be itself."""
    if isinstance(node, (ast.Name, ast.Attribute)):
        return {ast.unparse(node)}
    if isinstance(node, (ast.Subscript, ast.Starred)):
        return roots(node.value)
    if isinstance(node, ast.IfExp):
        return roots(node.body) | roots(node.orelse)
    if isinstance(node, (ast.BoolOp, ast.Tuple)):
        return set().union(*[roots(part) for part in getattr(node, "values", None) or node.elts])
    if isinstance(node, ast.Call) and isinstance(node.func, ast.Attribute):
        return roots(node.func.value) if node.func.attr in ("get", "items", "keys", "values", "setdefault", "pop") else set()
    if isinstance(node, ast.Call) and ast.unparse(node.func) not in OWN:
        return set().union(*[roots(part) for part in node.args])
    return set()


def targets_of(node):
    """The names and attributes to which an assignment assigns."""
    return [ast.unparse(part) for top in node.targets for part in ast.walk(top)
        if isinstance(part, (ast.Name, ast.Attribute)) and isinstance(part.ctx, ast.Store)]


def names_for_one_thing(function):
    """A dict from the names and attributes in a function to all of those that can stand for the same thing."""
    groups = {}
    for node in ast.walk(function):
        if isinstance(node, ast.Assign) and isinstance(node.value, (ast.Name, ast.Attribute, ast.IfExp, ast.BoolOp)):
            found = set(targets_of(node)) | roots(node.value)
            for name in list(found):
                found |= groups.get(name, set())
            for name in found:
                groups[name] = found
    return groups


def changed_in(body):
    """The names and attributes that some statements change, each with its row."""
    changed = []
    for node in [part for statement in body for part in ast.walk(statement)]:
        if isinstance(node, ast.Call) and isinstance(node.func, ast.Attribute) and node.func.attr in MODIFYING:
            changed.append((node.lineno, roots(node.func.value)))
        if isinstance(node, ast.Subscript) and isinstance(node.ctx, (ast.Store, ast.Del)):
            changed.append((node.lineno, roots(node.value)))
    return changed


def faults_of_loops(text):
    """The rows in the text of a file where a loop changes what may be what it iterates over."""
    faults = []
    for function in functions_in(text):
        groups = names_for_one_thing(function)
        for loop in [node for node in ast.walk(function) if isinstance(node, ast.For)]:
            walked = roots(loop.iter)
            same = walked.union(*[groups.get(name, set()) for name in walked])
            faults += [row for row, names in changed_in(loop.body) if names & same]
    return sorted(set(faults))


def faults_of_held(text):
    """The rows where a loop over what came from an attribute changes what came from an attribute."""
    faults = []
    for function in functions_in(text):
        held = set()
        for _ in range(3):
            for node in ast.walk(function):
                if isinstance(node, ast.Assign) and any("." in name or name in held for name in roots(node.value)):
                    held |= set(targets_of(node))
        for loop in [node for node in ast.walk(function) if isinstance(node, ast.For)]:
            if roots(loop.iter) & held:
                faults += [row for row, names in changed_in(loop.body) if names & held]
    return sorted(set(faults))


def is_in_place(node):
    """Whether a loop over this walks what an attribute keeps, or what a call of the package returns, without a copy."""
    if isinstance(node, ast.Subscript):
        return is_in_place(node.value)
    if isinstance(node, ast.Call) and ast.unparse(node.func) in ("enumerate", "zip", "reversed"):
        return any(is_in_place(part) for part in node.args)
    if isinstance(node, ast.Call):
        return ast.unparse(node.func) not in OWN
    return isinstance(node, ast.Attribute)


def faults_of_kept(text):
    """The rows where a loop that walks something in place changes what is kept in an attribute, or what it walks over."""
    faults = []
    for function in functions_in(text):
        for loop in [node for node in ast.walk(function) if isinstance(node, ast.For) and is_in_place(node.iter)]:
            told = {ast.unparse(part) for part in ast.walk(loop.target) if isinstance(part, ast.Name)}
            faults += [row for row, names in changed_in(loop.body) if names & told or any("." in name for name in names)]
    return sorted(set(faults))


def faults_of_sums(text):
    """The rows where an item is changed by `+=` or `|=` with what may be the thing itself, or an item of it."""
    faults = []
    for function in functions_in(text):
        groups = names_for_one_thing(function)
        for node in ast.walk(function):
            if isinstance(node, ast.AugAssign) and isinstance(node.target, (ast.Subscript, ast.Attribute)):
                changed = roots(node.target)
                same = changed.union(*[groups.get(name, set()) for name in changed])
                told = set().union(*[roots(part) for part in ast.walk(node.value)])
                if told & same:
                    faults.append(node.lineno)
    return faults


class LoopsTest(unittest.TestCase):
    def test_the_package(self):
        for path, text in sources().items():
            self.assertEqual(faults_of_loops(text), [], path)
            self.assertEqual(faults_of_held(text), [], path)
            self.assertEqual(faults_of_kept(text), [], path)
            self.assertEqual(faults_of_sums(text), [], path)

    def test_lists_that_get_another_name(self):
        walk = "def f(xs):\n    while xs:\n        found = []\n        for x in {}:\n            found.append(x)\n        xs = found\n"
        self.assertEqual(faults_of_loops(walk.format("xs")), [5])
        self.assertEqual(faults_of_loops(walk.format("enumerate(xs)")), [5])
        self.assertEqual(faults_of_loops(walk.format("list(xs)")), [])

    def test_what_came_from_attributes(self):
        walk = "def f(self):\n    told = self.told\n    ones = self.all.get(1)\n    for x in {}:\n        told[x] = 1\n"
        self.assertEqual(faults_of_held(walk.format("zip(ones, ones)")), [5])
        self.assertEqual(faults_of_held(walk.format("list(zip(ones, ones))")), [])

    def test_what_is_walked_in_place(self):
        walk = "def f(self, box):\n    for at, x in {}:\n        self.kept[at].append(x)\n"
        for told in ("enumerate(self.told)", "box.pairs()", "zip(self.told, [1])", "self.told[0]", "pairs_of(box)"):
            self.assertEqual(faults_of_kept(walk.format(told)), [3], told)
            self.assertEqual(faults_of_kept(walk.format(f"list({told})")), [], told)
        self.assertEqual(faults_of_kept(walk.format("enumerate(list(self.told))")), [])
        self.assertEqual(faults_of_kept("def f(self):\n    for xs in self.told:\n        xs[0] = 1\n"), [3])
        self.assertEqual(faults_of_kept("def f(self):\n    ys = []\n    for x in self.told:\n        ys.append(x)\n"), [])

    def test_items_that_are_added_to_items(self):
        row = "def f(xs, at):\n    ys = [0]\n    {}\n    xs = ys\n"
        self.assertEqual(faults_of_sums(row.format("ys[at] += xs[0]")), [3])
        self.assertEqual(faults_of_sums(row.format("ys[at] |= xs[0] << 1")), [3])
        self.assertEqual(faults_of_sums(row.format("ys[at] = ys[at] + xs[0]")), [])
        self.assertEqual(faults_of_sums(row.format("ys[at] += at")), [])
