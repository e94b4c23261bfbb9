"""The files of the package as trees, and what their operators and properties run."""

import ast
import builtins
import pathlib

PACKAGE = pathlib.Path(__file__).resolve().parent.parent / "tombkeeper"
# L5: methods between two underscores that may change something.
MAY_CHANGE = ["__init__", "__call__", "__enter__", "__exit__", "__setitem__"]
MODIFYING = "append extend insert pop remove clear update sort reverse setdefault add discard".split()
BUILTIN_METHODS = [name for kind in (str, bytes, int, list, tuple, dict, set) for name in dir(kind)]


def files():
    return sorted(PACKAGE.rglob("*.py"))


def nodes(path, kinds):
    return [node for node in ast.walk(ast.parse(path.read_text())) if isinstance(node, kinds)]


def creates(value):
    """Tell whether an expression gives a new list, dict, set or own object."""
    if isinstance(value, (ast.List, ast.Dict, ast.Set, ast.ListComp, ast.DictComp, ast.SetComp)):
        return True
    if isinstance(value, ast.Subscript):
        return isinstance(value.slice, ast.Slice)
    if isinstance(value, ast.BinOp):
        return creates(value.left) or creates(value.right)
    if not isinstance(value, ast.Call):
        return False
    if isinstance(value.func, ast.Name):
        return value.func.id in ("list", "dict", "set", "sorted") or value.func.id[0].isupper()
    return value.func.attr == "copy"


def own_names(function):
    """Return a dict from parameters and local names to whether each is only ever assigned what is new."""
    fresh = {node.arg: False for node in ast.walk(function) if isinstance(node, ast.arg)}
    plain = [
        (node.targets[0], creates(node.value))
        for node in ast.walk(function)
        if isinstance(node, ast.Assign) and len(node.targets) == 1 and isinstance(node.targets[0], ast.Name)
    ]
    for node in ast.walk(function):
        if isinstance(node, ast.Name) and isinstance(node.ctx, ast.Store):
            is_new = [new for target, new in plain if target is node] == [True]
            fresh[node.id] = fresh.get(node.id, True) and is_new
    return fresh


def yields(function):
    return any(isinstance(node, (ast.Yield, ast.YieldFrom)) for node in ast.walk(function))


def changed(function):
    """Return what a function changes by an item, an attribute, a method or a sign and an equals sign."""
    found = []
    for node in ast.walk(function):
        if isinstance(node, (ast.Subscript, ast.Attribute)) and isinstance(node.ctx, (ast.Store, ast.Del)):
            is_own = function.name == "__init__" and isinstance(node, ast.Attribute)
            if not is_own or ast.unparse(node.value) != "self":
                found.append(node.value)
        if isinstance(node, ast.Call) and isinstance(node.func, ast.Attribute) and node.func.attr in MODIFYING:
            found.append(node.func.value)
        if isinstance(node, ast.AugAssign):
            is_count = isinstance(node.value, ast.Constant) and isinstance(node.value.value, int)
            if not is_count or not isinstance(node.target, ast.Name):
                found.append(node)
    # What setdefault puts into a dict is new if it was written there; the dict is found by itself.
    return [node for node in found if not is_put_by_setdefault(node)]


def is_put_by_setdefault(node):
    """Tell whether an expression gives a list or dict that was just put into a dict, or what was put so before."""
    if not isinstance(node, ast.Call) or not isinstance(node.func, ast.Attribute):
        return False
    return node.func.attr == "setdefault" and isinstance(node.args[1], (ast.List, ast.Dict))


class Names:
    """What the functions, methods, classes and properties of some files stand for, by their names alone."""

    def __init__(self, trees):
        # For each name all that it may stand for when it is called, and all properties that it may read.
        self.called, self.read = {}, {}
        self.titles = {}
        self.roots = []
        for tree in trees:
            for node in tree.body:
                if isinstance(node, ast.FunctionDef):
                    self.called.setdefault(node.name, []).append(node)
                    self.titles[node] = node.name
                if isinstance(node, ast.ClassDef):
                    self.add_class(node)

    def add_class(self, kind):
        self.called.setdefault(kind.name, [])
        for node in kind.body:
            if not isinstance(node, ast.FunctionDef):
                continue
            self.titles[node] = f"{kind.name}.{node.name}"
            if [one for one in node.decorator_list if ast.unparse(one) == "property"]:
                self.read.setdefault(node.name, []).append(node)
                self.roots.append(node)
            elif node.name == "__init__":
                self.called[kind.name].append(node)
            else:
                self.called.setdefault(node.name, []).append(node)
                if node.name.startswith("__") and node.name not in MAY_CHANGE:
                    self.roots.append(node)

    def run_by(self, function):
        """Return all that a function may run directly, and, as texts, what it calls that has no own name."""
        run, unknown = [], []
        own = own_names(function)
        for node in ast.walk(function):
            if isinstance(node, ast.Attribute):
                run += self.read.get(node.attr, [])
            if not isinstance(node, ast.Call):
                continue
            if isinstance(node.func, ast.Name) and node.func.id not in own:
                name, known = node.func.id, dir(builtins)
            elif isinstance(node.func, ast.Attribute):
                name, known = node.func.attr, BUILTIN_METHODS
            else:
                name, known = None, []
            if name in self.called:
                run += self.called[name]
            elif name not in known:
                unknown.append(ast.unparse(node.func))
        return run, unknown

    def faults(self):
        """Return texts that tell what operators and properties change that they did not create, or call that they hold."""
        found = []
        met, waiting = list(self.roots), list(self.roots)
        while waiting:
            function = waiting.pop()
            fresh = {} if yields(function) else own_names(function)
            for node in changed(function):
                if not isinstance(node, ast.Name) or not fresh.get(node.id, False):
                    found.append(f"{self.titles[function]} changes {ast.unparse(node)}")
            run, unknown = self.run_by(function)
            found += [f"{self.titles[function]} calls {text}" for text in unknown]
            for other in run:
                if other not in met:
                    met.append(other)
                    waiting.append(other)
        return sorted(found)
