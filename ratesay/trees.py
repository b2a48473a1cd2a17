"""Trees: written proofs about a system, judged and printed."""

from ratesay.texts import text_of
from ratesay.walking import leaf_of, walk


def judged(system, goal, tree):
    """The tuple of (node, givens, (A, M)) of the open leaves of a right tree, None for any other value."""
    nodes = walk(system, goal, tree)
    if nodes is None:
        return None
    found = []
    for k, node in enumerate(nodes):
        if node.end[0] == "case":
            found.append((k, node.givens, leaf_of(node)))
    return tuple(found)


def is_refuted(system, tree):
    """Whether the tree shows that the system has no solution."""
    return judged(system, None, tree) == ()


def is_shown(system, f, tree):
    """Whether the tree shows that f is 0 at each solution of the system."""
    return judged(system, f, tree) == ()


def is_plain(tree):
    """Whether a right tree has no step "rate"."""
    for steps, _ in tree:
        for step in steps:
            if step[0] == "rate":
                return False
    return True


def leaf_cases(system, tree):
    """The tuple of the (A, M) of the open leaves, or None if the tree is not right."""
    leaves = judged(system, None, tree)
    if leaves is None:
        return None
    return tuple([case for _, _, case in leaves])


def lines(system, goal, tree):
    """The lines of a right tree, None for any other value."""
    nodes = walk(system, goal, tree)
    if nodes is None:
        return None
    found = []
    for k, node in enumerate(nodes):
        found.append(f"node {k}")
        if k == 0:
            found.extend(given_lines(system))
        found.extend(node_lines(node, tree[k][0]))
        found.append(end_line(node.end))
    return tuple(found)


def given_lines(system):
    """The lines of what the root begins with."""
    equations, inequations = system
    found = [told(("E", k, p)) + ", given" for k, p in enumerate(equations)]
    found.extend([told(("N", k, p)) + ", given" for k, p in enumerate(inequations)])
    return found


def node_lines(node, steps):
    """The lines of what a split and the steps place at a node."""
    places = node.places
    found = []
    if node.assumed:
        found.append(told(places[0]) + ", assumed")
        places = places[1:]
    for place, step in zip(places, steps):
        found.append(told(place) + ", " + reason(step))
    return found


def told(place):
    """What is told of a polynomial at its place."""
    side, k, p = place
    return f"{side}{k}: {text_of(p)}" + (" = 0" if side == "E" else " is not 0")


def reason(step):
    """The words for a step."""
    if step[0] == "rate":
        return f"rate of E{step[1]}"
    if step[0] == "sum":
        return "sum of " + (sum_text(step[1]) if step[1] else "nothing")
    if step[0] == "cancel":
        return f"E{step[1]} without {power_text(step[3])}"
    if step[0] == "root":
        return f"root {step[3]} of E{step[1]}"
    if step[0] == "divisor":
        return f"divides {power_text(step[1])}"
    if step[2]:
        return f"{power_text(step[1])} plus {sum_text(step[2])}"
    return power_text(step[1])


def sum_text(rows):
    """The text of a sum row that is not empty."""
    return " + ".join([f"({text_of(m)})*E{i}" for i, m in rows])


def power_text(powers):
    """The text of a power row."""
    if not powers:
        return "1"
    return "*".join([f"N{j}" if e == 1 else f"N{j}^{e}" for j, e in powers])


def end_line(end):
    """The line of an end."""
    if end[0] == "split":
        return f"split by {text_of(end[1])}: nodes {end[2]} and {end[3]}"
    if end[0] == "contradiction":
        return f"contradiction: E{end[1]} and {power_text(end[2])} are alike"
    if end[0] == "goal":
        factors = f"f^{end[2]}" + ("*" + power_text(end[3]) if end[3] else "")
        return f"goal: E{end[1]} and {factors} are alike"
    return "case: " + ", ".join([f"E{i}" for i in end[1]]) + "; " + ", ".join([f"N{j}" for j in end[2]])
