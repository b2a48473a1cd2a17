"""Backings and homes of general cases: inequations that make a case simple are gathered, its papers written."""

from ratesay.branches import Branch, Scope, place_sum
from ratesay.chains import resultant
from ratesay.equations import lowered_equation
from ratesay.errors import TooMany
from ratesay.factors import factors_of, lowest_exponents, without_letters
from ratesay.members import members_of
from ratesay.polynomials import as_number, coefficients, degree, less, letter, partial, primitive, scaled, times
from ratesay.searching import MOST_SPENT, tree_of
from ratesay.simple import obligations
from ratesay.verdicts import brought_down

# Polynomials of more pairs are not parted into factors.
MOST_PARTED = 40
# So many products of pairs may be made to eliminate letters.
MOST_WORK = 60000000


class Showing:
    """Shows of polynomials that they are not 0 where a case's equations are 0, gathering inequations for it."""

    def __init__(self, places, equations):
        self.places = places
        self.equations = equations
        self.scope = Scope(places, False, MOST_SPENT)
        self.work = Scope(places, False, MOST_WORK)
        self.inequations = []
        self.found = {}

    def common(self, g, p, w):
        """The triple (r, a, b) with r = a g + b p free of the letter w."""
        if (g, p) not in self.found:
            self.found[(g, p)] = eliminated(g, p, w, self.work)
        return self.found[(g, p)]

    def branch(self, system):
        """A branch at a system whose first equations are those of the case, or of a part of it."""
        first, second = system
        found = Branch(list(first), list(second), system, 0)
        for k, p in enumerate(first):
            if p in self.equations:
                found.solved[self.scope.highest(p)] = k
        for k, q in enumerate(second):
            found.parts[primitive(q)[1]] = k
        return found

    def demand(self, h):
        """Gathers what is needed to show that h is not 0."""
        waiting = [h]
        while waiting:
            branch = self.branch((self.equations, tuple(self.inequations)))
            _, p = brought_down(self.scope, branch, waiting.pop())
            if not p:
                raise TooMany()
            if as_number(p) is not None:
                continue
            w = self.scope.highest(p)
            if w in branch.solved:
                waiting.append(self.common(self.equations[branch.solved[w]], p, w)[0])
                continue
            for q in self.parts_with(p, w):
                self.inequations.append(q)
                waiting.append(coefficients(q, w)[-1])
            waiting.append(p)

    def parts_with(self, p, w):
        """Factors of p that have the letter w; they make up all of p that has it."""
        if len(p) <= MOST_PARTED:
            return [q for q in factors_of(p) if degree(q, w) > 0]
        low = lowest_exponents(p)
        found = [letter(w[0], w[1])] if w in low else []
        rest = without_letters(p, low)
        return [*found, rest] if degree(rest, w) > 0 else found

    def tree(self, system):
        """A tree that refutes a system, whose last equation is shown not to be 0."""
        branch = self.branch(system)
        scope = Scope(self.places, False, MOST_SPENT)
        scope.members = self.scope.members
        place = len(system[0]) - 1
        while True:
            place = lowered_equation(scope, branch, place)
            p = branch.equations[place]
            if as_number(p) is not None:
                break
            w = scope.highest(p)
            if w not in branch.solved:
                raise TooMany()
            low = branch.solved[w]
            _, a, b = self.common(branch.equations[low], p, w)
            place = place_sum(scope, branch, [(low, a), (place, b)])
        if not p:
            raise TooMany()
        branch.end = ("contradiction", place, ())
        return tree_of([branch])


def eliminated(g, p, w, scope):
    """The triple (r, a, b) with r = a g + b p free of the letter w, p of a lower degree than g."""
    parts = coefficients(g, w)
    if len(parts) == 3 and p == partial(g, w):
        r = less(times(parts[1], parts[1]), scaled(times(parts[0], parts[2]), (4, 1)))
        return (r, scaled(parts[2], (-4, 1)), p)
    return resultant(g, p, w, scope)


def shown_case(equations, ranking, places, others):
    """The triple (case, backing, trees): a simple case with some equations, its backing.

    The trees show some other polynomials not to be 0 in the case.
    """
    showing = Showing(places, equations)
    members = members_of(equations, places)
    size = -1
    while size < len(showing.inequations):
        size = len(showing.inequations)
        for member in members:
            showing.demand(member.initial)
            showing.demand(member.separant)
        for q in others:
            showing.demand(q)
        for q in list(showing.inequations):
            showing.demand(coefficients(q, showing.scope.highest(q))[-1])
    case = (equations, tuple(showing.inequations))
    backing = tuple([showing.tree(system) for _, _, system in obligations(case, ranking)])
    trees = tuple([showing.tree(((*equations, q), case[1])) for q in others])
    return (case, backing, trees)
