"""Going through a tree node by node."""

from ratesay.forms import is_pair
from ratesay.treesteps import (
    Budget,
    has_word,
    is_case_end,
    is_contradiction,
    is_goal,
    is_split,
    placed_by,
    step_side,
)


class Node:
    """A node that is gone through: what is given there, how it begins, and what its steps place."""

    def __init__(self, equations, inequations, givens):
        self.equations = equations
        self.inequations = inequations
        self.givens = givens
        self.places = []
        self.assumed = ""
        self.end = None

    def joins(self, side, p):
        """Puts a polynomial behind E or N."""
        row = self.equations if side == "E" else self.inequations
        self.places.append((side, len(row), p))
        row.append(p)

    def child(self, side, h):
        """The node that begins with what this one has, and h on one side."""
        first, second = self.givens
        if side == "E":
            first = (*first, h)
        else:
            second = (*second, h)
        found = Node(list(self.equations), list(self.inequations), (first, second))
        found.assumed = side
        found.joins(side, h)
        return found


def walk(system, goal, tree):
    """The list of the nodes of a right tree, None for any other value."""
    if type(tree) is not tuple or not tree:
        return None
    budget = Budget()
    first, second = system
    waiting = {0: Node(list(first), list(second), (tuple(first), tuple(second)))}
    found = []
    for k, value in enumerate(tree):
        node = waiting.pop(k, None)
        if node is None or not go_through(node, value, goal, budget):
            return None
        if not go_on(node, k, len(tree), waiting):
            return None
        found.append(node)
    return found


def go_through(node, value, goal, budget):
    """Carries the steps of any value as a node out; whether they and its end are right."""
    if not is_pair(value) or type(value[0]) is not tuple or not has_word(value[1]):
        return False
    steps, end = value
    for step in steps:
        p = placed_by(step, node.equations, node.inequations, budget)
        if p is None:
            return False
        node.joins(step_side(step), p)
    node.end = end
    if end[0] == "contradiction":
        return is_contradiction(end, node.equations, node.inequations, budget)
    if end[0] == "goal":
        return is_goal(end, goal, node.equations, node.inequations, budget)
    if end[0] == "case":
        return is_case_end(end, node.equations, node.inequations)
    return end[0] == "split"


def go_on(node, k, count, waiting):
    """Lets the nodes of a split wait; whether the split of node k is right."""
    end = node.end
    if end[0] != "split":
        return True
    if not is_split(end, k, count) or end[2] in waiting or end[3] in waiting:
        return False
    waiting[end[2]] = node.child("E", end[1])
    waiting[end[3]] = node.child("N", end[1])
    return True


def leaf_of(node):
    """The pair (A, M) of an open leaf."""
    equations = tuple([node.equations[i] for i in node.end[1]])
    return (equations, tuple([node.inequations[j] for j in node.end[2]]))
