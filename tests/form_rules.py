"""Checks of the form of the package's files: the rules of the language subset that a parser can see."""

import ast
import builtins
import os
import re

from tests.table_rules import faults_of_tables, tables_of

FOLDER = os.path.join(os.path.dirname(os.path.dirname(os.path.abspath(__file__))), "ratesay")
LIBRARY = {
    "heapq": {"heappush", "heappop", "heapify", "heapreplace", "heappushpop"},
    "math": {"gcd", "lcm", "isqrt", "comb", "perm", "factorial"},
    "itertools": {"product", "combinations", "permutations", "chain", "accumulate", "pairwise", "islice", "zip_longest"},
    "collections": {"defaultdict", "deque"},
}
BUILTINS = set(
    """len range enumerate zip min max sum abs sorted reversed int str bool bytes list tuple dict set frozenset
    isinstance ord repr any all divmod pow getattr hasattr setattr iter next map type super Exception ValueError
    TypeError KeyError IndexError LookupError ZeroDivisionError ArithmeticError OverflowError RuntimeError
    NotImplementedError AttributeError StopIteration NotImplemented property""".split()
)
METHODS = set(
    """append clear copy count endswith extend find get index insert isalnum isalpha isdigit islower isspace isupper
    items join keys ljust lower lstrip partition pop remove replace reverse rfind rjust rpartition rsplit rstrip
    setdefault split splitlines startswith strip update upper values zfill bit_length sort add discard""".split()
)
WORDS = """type typing typing_extensions enum Enum IntEnum StrEnum Flag IntFlag Generic Protocol ABC ABCMeta namedtuple
    NamedTuple TypedDict TYPE_CHECKING abstractmethod""".split()
BARRED = set(
    """mro elements open input law version_info with_traceback add_note register attrgetter breakpoint builtins compile
    copyright credits delattr dir eval exec exit gc globals help id importlib license locals methodcaller os quit
    vars sys global""".split()
)
FREE_BUILTINS = set("object id format credits license copyright quit callable complex ascii oct memoryview".split())
VALUE_NAMES = set()
for kind in (str, int, list, dict, set, bytes, tuple, float):
    VALUE_NAMES.update(name for name in dir(kind) if not name.startswith("__"))


def files():
    """The paths of the package's files."""
    return sorted(os.path.join(FOLDER, name) for name in os.listdir(FOLDER) if name != "__pycache__")


def faults_of_text(name, text):
    """Faults that the lines of a file show."""
    found = []
    rows = text.split("\n")
    if len(rows) > 400:
        found.append(f"{name}: L10: {len(rows)} lines")
    for k, row in enumerate(rows, 1):
        if len(row) > 120 or "\t" in row:
            found.append(f"{name}:{k}: L10: line")
        if any(not " " <= sign <= "~" for sign in row):
            found.append(f"{name}:{k}: L14: sign")
    return found


def docstrings(tree):
    """The nodes of the docstrings of a file."""
    found = set()
    for node in ast.walk(tree):
        if isinstance(node, (ast.Module, ast.ClassDef, ast.FunctionDef)) and node.body:
            first = node.body[0]
            if isinstance(first, ast.Expr) and isinstance(first.value, ast.Constant):
                found.add(id(first.value))
    return found


def bound_names(function):
    """The parameters and local variables of a function."""
    found = [part.arg for part in ast.walk(function) if isinstance(part, ast.arg)]
    for part in ast.walk(function):
        if isinstance(part, ast.Name) and isinstance(part.ctx, (ast.Store, ast.Del)):
            found.append(part.id)
    return found


SPECIAL = {"__init__", "__eq__", "__ne__", "__len__"}


class Checker(ast.NodeVisitor):
    """Goes through one file."""

    def __init__(self, name, tree, modules):
        self.name = name
        self.tree = tree
        self.modules = modules
        self.found = []
        self.docs = docstrings(tree)
        self.imports = {}
        self.classes = {part.name for part in tree.body if isinstance(part, ast.ClassDef)}

    def fault(self, node, why):
        self.found.append(f"{self.name}:{getattr(node, 'lineno', 0)}: {why}")

    def run(self):
        names = []
        for part in self.tree.body:
            if isinstance(part, ast.Expr) and id(part.value) in self.docs:
                continue
            if isinstance(part, ast.ImportFrom):
                self.look_at_import(part)
                names.extend(alias.name for alias in part.names)
            elif isinstance(part, (ast.FunctionDef, ast.ClassDef)):
                names.append(part.name)
            elif isinstance(part, ast.Assign) and len(part.targets) == 1 and isinstance(part.targets[0], ast.Name):
                names.append(part.targets[0].id)
                if any(isinstance(inner, (ast.Call, ast.ListComp, ast.Set)) for inner in ast.walk(part.value)):
                    self.fault(part, "L3: value")
            else:
                self.fault(part, "L3: statement")
        for name in names:
            if names.count(name) > 1:
                self.fault(self.tree, f"L15: {name} bound twice")
            if hasattr(builtins, name):
                self.fault(self.tree, f"L15: {name} is a builtin")
        self.visit(self.tree)
        return self.found

    def look_at_import(self, node):
        if node.level or any(alias.asname or alias.name == "*" for alias in node.names):
            self.fault(node, "L2: import")
        if node.module in LIBRARY:
            if any(alias.name not in LIBRARY[node.module] for alias in node.names):
                self.fault(node, "L2: library")
        elif node.module not in self.modules:
            self.fault(node, "L2: module")
        else:
            for alias in node.names:
                if alias.name not in self.modules[node.module]:
                    self.fault(node, f"L16: {alias.name} is not defined there")
        for alias in node.names:
            self.imports[alias.name] = node.module

    def visit_Import(self, node):
        self.fault(node, "L16: import")

    def visit_FunctionDef(self, node):
        if node.end_lineno - node.lineno + 1 > 40:
            self.fault(node, "L10: function")
        if node.decorator_list:
            self.fault(node, "L4: decorator")
        for name in bound_names(node):
            if name in self.imports or name in self.classes:
                self.fault(node, f"L15: {name} is an import or a class")
            if hasattr(builtins, name) and name not in FREE_BUILTINS:
                self.fault(node, f"L15: {name} is a builtin")
            if name in BARRED and name not in FREE_BUILTINS:
                self.fault(node, f"L17: {name}")
            if name.startswith("__") or not name.isascii():
                self.fault(node, f"L12: {name}")
        self.look_at_sets(node)
        self.generic_visit(node)

    def look_at_sets(self, node):
        kept = set()
        for part in ast.walk(node):
            if isinstance(part, ast.Assign) and isinstance(part.value, ast.Call):
                if isinstance(part.value.func, ast.Name) and part.value.func.id == "set":
                    kept.add(part.targets[0].id)
        for part in ast.walk(node):
            if isinstance(part, (ast.For, ast.comprehension)) and isinstance(part.iter, ast.Name):
                if part.iter.id in kept:
                    self.fault(node, "L24: a set is iterated")
            if isinstance(part, ast.Return) and isinstance(part.value, ast.Name) and part.value.id in kept:
                self.fault(node, "L24: a set is returned")

    def visit_ClassDef(self, node):
        if node.decorator_list or len(node.bases) > 1:
            self.fault(node, "L5: class")
        methods = {part.name for part in node.body if isinstance(part, ast.FunctionDef)}
        for part in ast.walk(node):
            if isinstance(part, ast.Attribute) and isinstance(part.ctx, ast.Store):
                if part.attr in VALUE_NAMES and part.attr not in {"count", "index", "title", "find", "copy"}:
                    self.fault(part, f"L26: {part.attr}")
                if part.attr in methods:
                    self.fault(part, f"L18: {part.attr}")
        for name in methods:
            if name in SPECIAL:
                continue
            if name in VALUE_NAMES or name.startswith("__") or name in BARRED:
                self.fault(node, f"L26: {name}")
        self.generic_visit(node)

    def visit_Name(self, node):
        if isinstance(node.ctx, ast.Load) and hasattr(builtins, node.id) and node.id not in BUILTINS:
            self.fault(node, f"L8: {node.id}")
        self.generic_visit(node)

    def visit_BinOp(self, node):
        if isinstance(node.op, (ast.Div, ast.MatMult)):
            self.fault(node, "L7: operator")
        if isinstance(node.op, ast.Pow) and not isinstance(node.right, ast.Constant):
            self.fault(node, "L27: exponent")
        self.generic_visit(node)

    def visit_Constant(self, node):
        if isinstance(node.value, (float, complex)) or node.value is Ellipsis:
            self.fault(node, "L7: value")
        if isinstance(node.value, str) and id(node) not in self.docs:
            if "%" in node.value or any(re.search(rf"\b{word}\b", node.value) for word in WORDS if word != "type"):
                self.fault(node, "L17, L27: string")
        self.generic_visit(node)

    def visit_Compare(self, node):
        for op, right in zip(node.ops, node.comparators):
            if isinstance(op, (ast.Is, ast.IsNot)):
                plain = isinstance(right, ast.Constant) and right.value in (None, True, False)
                kind = isinstance(node.left, ast.Call) and getattr(node.left.func, "id", "") == "type"
                if not plain and not kind:
                    self.fault(node, "L20: is")
        self.generic_visit(node)

    def visit_Call(self, node):
        if isinstance(node.func, ast.Name):
            if node.func.id in {"range", "zip", "enumerate", "reversed"}:
                self.look_at_view(node)
            if node.func.id in {"sorted", "min", "max"}:
                for keyword in node.keywords:
                    if isinstance(keyword.value, ast.Lambda):
                        self.fault(node, "L25: key")
        elif isinstance(node.func, ast.Attribute) and node.func.attr in {"items", "keys", "values"}:
            self.look_at_view(node)
        self.generic_visit(node)

    def look_at_view(self, node):
        """L23: what is iterated at once stands in a loop, a comprehension, or a builtin that iterates."""
        for part in ast.walk(self.tree):
            if isinstance(part, (ast.For, ast.comprehension)) and part.iter is node:
                return
            if isinstance(part, ast.Call) and isinstance(part.func, ast.Name) and part.args and part.args[0] is node:
                if part.func.id in {"list", "tuple", "dict", "sorted", "sum", "any", "all", "min", "max"}:
                    return
                if part.func.id in {"enumerate", "zip", "reversed"}:
                    return
        self.fault(node, "L23: not iterated at once")

    def barred(self, node):
        self.fault(node, f"{type(node).__name__} is not used here")

    def visit_Delete(self, node):
        if not all(isinstance(part, ast.Subscript) for part in node.targets):
            self.fault(node, "L6: del")
        self.generic_visit(node)

    def visit_Try(self, node):
        if node.finalbody or node.orelse:
            self.fault(node, "L6: try")
        for handler in node.handlers:
            told = handler.type.elts if isinstance(handler.type, ast.Tuple) else [handler.type]
            for part in told:
                if not isinstance(part, ast.Name) or self.imports.get(part.id) != "ratesay.errors":
                    self.fault(node, "L19: except")
        self.generic_visit(node)

    visit_Global = visit_Nonlocal = visit_AsyncFunctionDef = visit_Await = barred
    visit_Yield = visit_YieldFrom = visit_With = visit_Match = visit_NamedExpr = barred
    visit_GeneratorExp = visit_SetComp = visit_Set = visit_AnnAssign = barred


def modules():
    """The names that each module of the package defines."""
    found = {}
    for path in files():
        with open(path, encoding="utf-8") as source:
            tree = ast.parse(source.read())
        names = set()
        for part in tree.body:
            if isinstance(part, (ast.FunctionDef, ast.ClassDef)):
                names.add(part.name)
            elif isinstance(part, ast.Assign):
                names.add(part.targets[0].id)
        found["ratesay." + os.path.basename(path)[:-3]] = names
    return found


def tables():
    """The names of the lists and dicts that each module of the package has at module level."""
    found = {}
    for path in files():
        with open(path, encoding="utf-8") as source:
            found["ratesay." + os.path.basename(path)[:-3]] = tables_of(ast.parse(source.read()), {})
    return found


def cycles():
    """The modules that import themselves, directly or through others."""
    graph = {}
    for path in files():
        with open(path, encoding="utf-8") as source:
            tree = ast.parse(source.read())
        name = "ratesay." + os.path.basename(path)[:-3]
        graph[name] = {part.module for part in tree.body if isinstance(part, ast.ImportFrom)}
    found = []
    for name in graph:
        seen, rest = set(), list(graph[name])
        while rest:
            at = rest.pop()
            if at not in seen:
                seen.add(at)
                rest.extend(graph.get(at, ()))
        if name in seen:
            found.append(name)
    return found


def faults():
    """All faults found in the package."""
    found = [f"L16: {name} imports itself" for name in cycles()]
    known = modules()
    told = tables()
    for path in files():
        name = os.path.basename(path)
        if not re.fullmatch(r"[a-z_][a-z0-9_]*\.py", name):
            found.append(f"L1: {name}")
            continue
        with open(path, encoding="utf-8") as source:
            text = source.read()
        found.extend(faults_of_text(name, text))
        found.extend(Checker(name, ast.parse(text), known).run())
        found.extend(faults_of_tables(name, ast.parse(text), told))
    return found
