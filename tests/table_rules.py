"""Checks of lists and dicts that stand at module level (L15): they hold no list or dict, and are only read."""

import ast

READERS = {"len", "list", "tuple", "dict", "sorted", "sum", "min", "max", "any", "all", "enumerate", "zip", "reversed"}
METHODS = {"get", "items", "keys", "values", "index", "count", "copy"}
COMPREHENSIONS = (ast.ListComp, ast.DictComp, ast.SetComp, ast.GeneratorExp)


def assigned(tree):
    """The pairs (name, value) of the names that a file assigns at module level."""
    found = []
    for part in tree.body:
        if isinstance(part, ast.Assign):
            found.extend((target.id, part.value) for target in part.targets if isinstance(target, ast.Name))
        elif isinstance(part, ast.AnnAssign) and part.value is not None:
            found.append((part.target.id, part.value))
    return found


def is_table(node, known):
    """Whether an expression at module level is a list or a dict; known tells the names of others."""
    if isinstance(node, (ast.List, ast.Dict, ast.ListComp, ast.DictComp)):
        return True
    if isinstance(node, ast.Name):
        return node.id in known
    if isinstance(node, ast.BinOp):
        return is_table(node.left, known) or is_table(node.right, known)
    return False


def tables_of(tree, tables):
    """The names of a file, imported ones too, that stand for lists and dicts; tables tells those of each module."""
    found = set()
    for part in tree.body:
        if isinstance(part, ast.ImportFrom):
            found.update(alias.name for alias in part.names if alias.name in tables.get(part.module, ()))
    for name, value in assigned(tree):
        if is_table(value, found):
            found.add(name)
    return found


def members(node):
    """What a list, a tuple or a dict that is written out holds."""
    if isinstance(node, ast.Dict):
        return [part for part in node.keys + node.values if part is not None]
    return node.elts if isinstance(node, (ast.List, ast.Tuple)) else []


def is_read(node, parents):
    """Whether a list or dict is only read at the place where its name stands, or copied."""
    above = parents[node]
    if isinstance(above, ast.Subscript):
        return above.value is node and isinstance(above.ctx, ast.Load)
    if isinstance(above, (ast.For, ast.comprehension)):
        return above.iter is node
    if isinstance(above, ast.Compare):
        return all(isinstance(op, (ast.In, ast.NotIn, ast.Eq, ast.NotEq)) for op in above.ops)
    if isinstance(above, ast.Call):
        return isinstance(above.func, ast.Name) and above.func.id in READERS and node in above.args
    if isinstance(above, ast.Attribute):
        return above.attr in METHODS and isinstance(parents[above], ast.Call) and parents[above].func is above
    return False


def faults_of_tables(name, tree, tables):
    """The faults of a file's lists and dicts at module level; tables tells the names of those of each module."""
    found = []
    known = tables_of(tree, tables)
    parents = {below: above for above in ast.walk(tree) for below in ast.iter_child_nodes(above)}
    for _, value in assigned(tree):
        for node in ast.walk(value):
            if isinstance(node, COMPREHENSIONS) or any(is_table(part, known) for part in members(node)):
                found.append(f"{name}:{node.lineno}: L15: holds a list or a dict")
    for node in ast.walk(tree):
        if isinstance(node, ast.Name) and node.id in known and isinstance(node.ctx, ast.Load):
            if not is_read(node, parents):
                found.append(f"{name}:{node.lineno}: L15: {node.id} is handed on")
    return found
