"""Trees grown branch by branch, and what belongs to their leaves: backings and homes."""

from ratesay.branches import Branch, Scope, note, root_branch
from ratesay.errors import TooMany
from ratesay.homes import are_led_to_zero
from ratesay.members import members_of
from ratesay.parting import advance, split
from ratesay.polynomials import as_number
from ratesay.rankings import places_of
from ratesay.ratios import ZERO
from ratesay.remainders import whole_steps
from ratesay.simple import obligations
from ratesay.verdicts import placed_nonzero, verdict

MOST_NODES = 400
MOST_TRIED = 1600
MOST_SPENT = 2900000


def noted_root(scope, system):
    """The branch with which a tree of the system begins, its inequations noted."""
    found = root_branch(system)
    for k in range(len(system[1])):
        note(scope, found, k)
    return found


class Growth:
    """A tree that grows: its nodes so far, and the branches that wait, those of little weight first."""

    def __init__(self, scope, system):
        self.scope = scope
        self.count = 1
        self.nodes = []
        self.waiting = [(0, 0)]
        self.branches = {0: noted_root(scope, system)}

    def step(self):
        """Works at the branch of least weight; the branch if it has ended without a split, otherwise None."""
        weight, number = min(self.waiting)
        self.waiting.remove((weight, number))
        branch = self.branches.pop(number)
        self.nodes.append((number, branch))
        ask = advance(self.scope, branch)
        if ask is None:
            return branch
        first, second = split(self.scope, branch, ask, self.count)
        for child, more in ((first, size_of(ask)), (second, 1)):
            self.waiting.append((weight + more, self.count))
            self.branches[self.count] = child
            self.count += 1
        return None

    def tree(self):
        """The tree, when no branch waits."""
        return tree_of(self.ordered())

    def ordered(self):
        """The list of all nodes, in their order."""
        table = {number: branch for number, branch in self.nodes}
        return [table[number] for number in sorted(table)]


def size_of(h):
    """How heavy it is to go on with the equation h."""
    return len(h) * max([sum([e for _, e in monomial]) for monomial, _ in h])


def grown(scope, system):
    """The list of all nodes of a tree of the system, by their numbers."""
    growth = Growth(scope, system)
    while growth.waiting:
        growth.step()
        if growth.count > MOST_NODES:
            raise TooMany()
    return growth.ordered()


def first_leaf(scope, system):
    """The first open leaf that is found, or None if there is none."""
    growth = Growth(scope, system)
    while growth.waiting:
        branch = growth.step()
        if branch is not None and branch.end[0] == "case":
            return branch
        if growth.count > MOST_TRIED:
            raise TooMany()
    return None


def leaf_along(scope, system, is_zero):
    """The leaf that is reached when is_zero tells at each split whether the polynomial is 0."""
    branch = noted_root(scope, system)
    ask = advance(scope, branch)
    while ask is not None:
        first, second = split(scope, branch, ask, branch.number + 1)
        branch = first if is_zero(ask) else second
        ask = advance(scope, branch)
    return branch


def tree_of(branches):
    """The tree of a list of all its nodes."""
    return tuple([(tuple(branch.steps), branch.end) for branch in branches])


def case_of(branch):
    """The pair (A, M) of an open leaf."""
    equations = tuple([branch.equations[i] for i in branch.end[1]])
    return (equations, tuple([branch.inequations[j] for j in branch.end[2]]))


def refutation(scope, system, solved):
    """A tree that refutes a system, or None; solved tells places of equations to begin with by their leaders.

    The last equation is the one that is shown not to be 0.
    """
    first, second = system
    branch = Branch(list(first), list(second), system, 0)
    branch.solved = {v: place for v, place in solved.items()}
    for k in range(len(second)):
        note(scope, branch, k)
    h = first[-1]
    if as_number(h) not in (None, ZERO):
        return (((), ("contradiction", len(first) - 1, ())),)
    if h:
        word, found = verdict(scope, branch, h)
        if word == "nonzero":
            place = placed_nonzero(scope, branch, h, found)
            branch.end = ("contradiction", len(first) - 1, ((place, 1),))
            return tree_of([branch])
    growth = Growth(scope, system)
    while growth.waiting:
        node = growth.step()
        if node is not None and node.end[0] == "case":
            return None
        if growth.count > MOST_NODES:
            raise TooMany()
    return growth.tree()


def backing_of(case, ranking):
    """A backing of a case, or None if the case is not simple."""
    asked = obligations(case, ranking)
    places = places_of(ranking)
    found = []
    for _, _, system in asked:
        scope = Scope(places, False, MOST_SPENT)
        count = len(system[0]) - 1
        solved = {scope.highest(p): k for k, p in enumerate(system[0][:count])}
        tree = refutation(scope, system, solved)
        if tree is None:
            return None
        found.append(tree)
    return tuple(found)


def home_of(case, ranking, givens):
    """A home of a simple case, that has their solutions, for givens."""
    places = places_of(ranking)
    equations, inequations = case
    members = members_of(equations, places)
    rows = []
    for p in givens[0]:
        steps, rest = whole_steps(p, members, places)
        if rest:
            raise TooMany()
        rows.append(tuple(steps))
    if not are_led_to_zero(givens[0], members_of(equations, places), rows):
        # The steps are right, so they are beyond the bounds of homes.
        raise TooMany()
    trees = []
    for q in givens[1]:
        scope = Scope(places, True, MOST_SPENT)
        solved = {scope.highest(p): k for k, p in enumerate(equations)}
        tree = refutation(scope, ((*equations, q), inequations), solved)
        if tree is None:
            raise TooMany()
        trees.append(tree)
    return (tuple(rows), tuple(trees))
