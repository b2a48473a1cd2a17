"""Parting a system into simple cases, branch by branch."""

from ratesay.branches import note, place_sum, place_without
from ratesay.equations import discriminant, treat_equation
from ratesay.inequations import treat_inequation
from ratesay.polynomials import UNIT, coefficients, partial, pseudo, raised, scaled
from ratesay.verdicts import placed_by


def advance(scope, branch):
    """Works at a branch until it ends; the polynomial to split by, or None when the branch has its end."""
    while branch.end is None:
        branch.doubt = None
        if branch.open_equations:
            ask = treat_equation(scope, branch)
        elif branch.open_inequations:
            ask = treat_inequation(scope, branch)
        else:
            branch.end = leaf_end(scope, branch)
            ask = None
        if ask is not None:
            return ask
    return None


def leaf_end(scope, branch):
    """The end of a branch at which nothing is left to do."""
    ordered = sorted([(scope.key(v), place) for v, place in branch.solved.items()])
    return ("case", tuple([place for _, place in ordered]), tuple(sorted(branch.kept)))


def split(scope, branch, h, number):
    """The two branches of a split by h; the first one has the given number, the second one the next."""
    branch.end = ("split", h, number, number + 1)
    first, second = branch.child(number), branch.child(number + 1)
    equations, inequations = branch.givens
    first.givens = ((*equations, h), inequations)
    second.givens = (equations, (*inequations, h))
    first.equations.append(h)
    first.open_equations.append(len(first.equations) - 1)
    if branch.doubt is not None:
        settle(scope, first, branch.doubt, len(first.equations) - 1)
    second.inequations.append(h)
    second.open_inequations.append(len(second.inequations) - 1)
    note(scope, second, len(second.inequations) - 1)
    return (first, second)


def settle(scope, branch, doubt, at):
    """Draws at once what E[at] being 0 tells of the equation that was in doubt.

    Otherwise it would be lost, when the new equation is solved and its rates lower the other one.
    """
    place, other, w = doubt
    g = branch.equations[place]
    if other is None:
        separant = partial(g, w)
        r, a, _ = discriminant(scope, g, w, separant)
        low = placed_by(scope, branch, r, at)
        if low is not None:
            square = place_sum(scope, branch, [(place, scaled(a, (-1, 1))), (low, UNIT)])
            branch.open_equations.append(branch.joins(("root", square, separant, 2), separant))
        return
    q = branch.inequations[other]
    k, quo, r = pseudo(g, q, w)
    low = placed_by(scope, branch, r, at)
    if low is not None:
        rows = [(place, raised(coefficients(q, w)[-1], k)), (low, scaled(UNIT, (-1, 1)))]
        product = place_sum(scope, branch, rows)
        branch.open_equations.append(place_without(scope, branch, product, quo, ((other, 1),)))
