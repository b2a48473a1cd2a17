"""Treating the inequations of a branch: reduced, parted, kept, or compared with a solved member."""

from ratesay.branches import next_step, note, place_nonzero, place_sum, place_without, rate_place, stripped
from ratesay.equations import lowest_place
from ratesay.polynomials import UNIT, as_number, coefficients, pseudo, raised, scaled
from ratesay.ratios import inverted, multiplied
from ratesay.treesteps import power_product
from ratesay.verdicts import common, placed_nonzero, placed_zero, verdict


def treat_inequation(scope, branch):
    """Treats the lowest open inequation; the polynomial to split by first, or None."""
    place = lowest_place(scope, branch.inequations, branch.open_inequations)
    branch.open_inequations.remove(place)
    # What is known of a part must stay told by this part alone, so it is parted before it is reduced.
    if has_parts(scope, branch, place):
        return None
    at = lowered_inequation(scope, branch, place)
    q = branch.inequations[at]
    if not q:
        zero = place_sum(scope, branch, [])
        branch.end = ("contradiction", zero, ((at, 1),))
        return None
    if as_number(q) is not None:
        return None
    if has_parts(scope, branch, at):
        return None
    return plain_inequation(scope, branch, at)


def has_parts(scope, branch, place):
    """Whether N[place] has several factors, or one of which it is a power; they are opened in its stead."""
    q = branch.inequations[place]
    if as_number(q) is not None:
        return False
    note(scope, branch, place)
    _, powers, _ = stripped(branch, q)
    if len(powers) == 1 and powers[0][1] == 1:
        return False
    branch.open_inequations.extend([at for at, _ in powers])
    return True


def lowered_inequation(scope, branch, place):
    """The place in N of what N[place] is reduced to."""
    at = place
    while as_number(branch.inequations[at]) is None:
        g = branch.inequations[at]
        step = next_step(scope, branch, g)
        if step is None:
            return at
        a, (low, j, m) = step
        spot = rate_place(scope, branch, low, j)
        powers = ()
        if a != UNIT:
            _, powers, _ = stripped(branch, a)
            f = power_product(branch.inequations, powers)[0][1]
            m = scaled(m, multiplied(f, inverted(a[0][1])))
        row = {j: e for j, e in powers}
        row[at] = row.get(at, 0) + 1
        told = tuple([(k, row[k]) for k in sorted(row)])
        at = place_nonzero(scope, branch, told, [(spot, scaled(m, (-1, 1)))])
    return at


def plain_inequation(scope, branch, place):
    """Treats an inequation without easily found factors."""
    q = branch.inequations[place]
    if place in branch.kept:
        return None
    w = scope.highest(q)
    if w in branch.solved:
        return against_member(scope, branch, place, w)
    word, found = verdict(scope, branch, scope.member(q).initial)
    if word == "nonzero":
        branch.kept.append(place)
        return None
    branch.open_inequations.append(place)
    return found


def against_member(scope, branch, place, w):
    """Treats an inequation whose leader is that of a solved member: both shall have nothing in common."""
    q = branch.inequations[place]
    other = branch.solved[w]
    g = branch.equations[other]
    found = common(scope, g, q, w)
    word, chain = ("zero", None) if found is None or not found[0] else verdict(scope, branch, found[0])
    if word == "nonzero":
        return None
    branch.open_inequations.append(place)
    if word == "split":
        if len(coefficients(q, w)) == 2:
            branch.doubt = (other, place, w)
        return chain
    return euclid(scope, branch, place, other, w)


def euclid(scope, branch, place, other, w):
    """Treats an inequation that may have a factor in common with the solved member of its leader."""
    q = branch.inequations[place]
    g = branch.equations[other]
    lead = scope.member(q).initial
    word, found = verdict(scope, branch, lead)
    if word != "nonzero":
        return found
    placed_nonzero(scope, branch, lead, found)
    k, quo, rest = pseudo(g, q, w)
    rows = [(other, raised(lead, k))]
    if rest:
        word, found = verdict(scope, branch, rest)
        if word == "split":
            return found
        if word == "nonzero":
            branch.open_inequations.remove(place)
            return None
        rows.append((placed_zero(scope, branch, found), scaled(UNIT, (-1, 1))))
    product = place_sum(scope, branch, rows)
    branch.open_equations.append(place_without(scope, branch, product, quo, ((place, 1),)))
    return None
