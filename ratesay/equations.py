"""Treating the equations of a branch: reduced, parted, solved for their leaders."""

from ratesay.branches import (
    next_step,
    note,
    place_divisor,
    place_nonzero,
    place_sum,
    place_without,
    rate_place,
    stripped,
)
from ratesay.errors import TooMany
from ratesay.polynomials import (
    UNIT,
    as_number,
    coefficients,
    less,
    partial,
    primitive,
    quotient,
    scaled,
    times,
)
from ratesay.ratios import capped_power, inverted
from ratesay.treesteps import MOST_EXPONENT
from ratesay.verdicts import common, common_part, part_verdict, placed_nonzero, placed_zero, verdict


def lowest_place(scope, row, places):
    """The one of some places in a row whose polynomial is to be treated first."""
    found = []
    for place in places:
        p = row[place]
        rank = ((), 0, 0) if as_number(p) is not None else scope.rank(p)
        found.append((rank, place))
    return min(found)[1]


def lowered_equation(scope, branch, place):
    """The place in E of what E[place] is reduced to, without known factors."""
    at = without_known(scope, branch, place)
    while as_number(branch.equations[at]) is None:
        g = branch.equations[at]
        step = next_step(scope, branch, g)
        if step is None:
            return at
        a, (low, j, m) = step
        spot = rate_place(scope, branch, low, j)
        r = less(times(a, g), times(m, branch.equations[spot]))
        f = inverted(primitive(r)[0]) if r else (1, 1)
        at = place_sum(scope, branch, [(at, scaled(a, f)), (spot, scaled(m, (-f[0], f[1])))])
        at = without_known(scope, branch, at)
    return at


def without_known(scope, branch, place):
    """The place in E of E[place] without known factors."""
    p = branch.equations[place]
    if as_number(p) is not None:
        return place
    _, powers, rest = stripped(branch, p)
    if not powers:
        return place
    return place_without(scope, branch, place, rest, powers)


def treat_equation(scope, branch):
    """Treats the lowest open equation; the polynomial to split by first, or None."""
    place = lowest_place(scope, branch.equations, branch.open_equations)
    branch.open_equations.remove(place)
    at = lowered_equation(scope, branch, place)
    p = branch.equations[at]
    if not p:
        return None
    if as_number(p) is not None:
        branch.end = ("contradiction", at, ())
        return None
    if scope.highest(p) != scope.highest(branch.equations[place]) and branch.open_equations:
        branch.open_equations.append(at)
        return None
    parts = scope.pieces(p)
    if len(parts) > 1:
        return parted_equation(scope, branch, at, parts)
    if primitive(p)[1] != parts[0]:
        at = root_place(scope, branch, at, parts[0])
    return plain_equation(scope, branch, at)


def root_place(scope, branch, place, part):
    """The place in E of a polynomial of which E[place] is a power."""
    k = 0
    rest = branch.equations[place]
    while as_number(rest) is None:
        rest = quotient(rest, part)
        k += 1
    if k == 1:
        return place
    if k > MOST_EXPONENT:
        raise TooMany()
    scope.spend(capped_power(len(part), k, scope.most))
    return branch.joins(("root", place, part, k), part)


def parted_equation(scope, branch, place, parts):
    """Treats an equation with several factors."""
    branch.open_equations.append(place)
    for part in parts:
        word, chain = part_verdict(scope, branch, part)
        if word == "nonzero":
            placed_nonzero(scope, branch, part, chain)
            return None
    ask = min([(scope.rank(part), part) for part in parts])[1]
    return ask


def plain_equation(scope, branch, place):
    """Treats an equation without known factors: it is solved for its leader, if all is known of it that must be."""
    p = branch.equations[place]
    w = scope.highest(p)
    if w in branch.solved:
        word, found = compared(scope, branch, place, w)
        if word != "none":
            return found
    member = scope.member(p)
    word, found = verdict(scope, branch, member.initial)
    if word == "nonzero":
        placed_nonzero(scope, branch, member.initial, found)
        if member.degree > 1:
            word, found = separated(scope, branch, place, w)
    if word == "nonzero":
        insert(scope, branch, place, w)
        return None
    if word == "zero":
        # The equation is reduced, so only its discriminant can be 0: another one has joined in its stead.
        return None
    branch.open_equations.append(place)
    return found


def compared(scope, branch, place, w):
    """Treats an equation beside the solved member of its leader: ("none", None) if it shall take its place.

    Otherwise the branch was ended, an equation joined, or there is a polynomial to split by.
    """
    p = branch.equations[place]
    other = branch.solved[w]
    g = branch.equations[other]
    found = common(scope, g, p, w)
    if found is None or not found[0]:
        return ("none", None)
    r, a, b = found
    word, chain = verdict(scope, branch, r)
    if word == "nonzero":
        low = placed_nonzero(scope, branch, r, chain)
        high = place_sum(scope, branch, [(other, a), (place, b)])
        branch.end = ("contradiction", high, ((low, 1),))
        return ("ended", None)
    if scope.member(p).degree < 2:
        return ("none", None)
    if word == "split":
        branch.open_equations.append(place_sum(scope, branch, [(other, a), (place, b)]))
        branch.open_equations.append(place)
        return ("joined", None)
    word, found = common_part(scope, branch, g, p, w)
    if word == "none":
        return (word, None)
    branch.open_equations.append(place)
    if word == "split":
        return (word, found)
    r, a, b = found
    branch.open_equations.append(place_sum(scope, branch, [(other, a), (place, b)]))
    return ("joined", None)


def discriminant(scope, p, w, separant):
    """The triple (r, a, b) with r = a p + b separant free of w, r () if p has multiple factors."""
    parts = coefficients(p, w)
    if len(parts) == 3:
        r = less(times(parts[1], parts[1]), scaled(times(parts[0], parts[2]), (4, 1)))
        return (r, scaled(parts[2], (-4, 1)), separant)
    return common(scope, p, separant, w)


def separated(scope, branch, place, w):
    """("nonzero", ..) if the separant of an equation is placed as not 0; ("zero", ..) if the equation was replaced."""
    p = branch.equations[place]
    separant = partial(p, w)
    found = discriminant(scope, p, w, separant)
    if found is None:
        return asked_separant(scope, branch, place, separant)
    r, a, b = found
    word, chain = verdict(scope, branch, r)
    if word == "split":
        if len(coefficients(p, w)) == 3:
            branch.doubt = (place, None, w)
        return (word, chain)
    if word == "zero":
        return multiple_roots(scope, branch, place, w, chain)
    low = placed_nonzero(scope, branch, r, chain)
    high = place_nonzero(scope, branch, ((low, 1),), [(place, scaled(a, (-1, 1)))])
    note(scope, branch, place_divisor(scope, branch, ((high, 1),), separant, b))
    return (word, chain)


def asked_separant(scope, branch, place, separant):
    """What is known of a separant by itself."""
    word, chain = verdict(scope, branch, separant)
    if word == "nonzero":
        placed_nonzero(scope, branch, separant, chain)
    return (word, chain)


def multiple_roots(scope, branch, place, w, chain):
    """Treats an equation whose discriminant is 0 by a chain."""
    p = branch.equations[place]
    separant = partial(p, w)
    if len(coefficients(p, w)) > 3:
        return by_common_part(scope, branch, place, w)
    low = placed_zero(scope, branch, chain)
    square = place_sum(scope, branch, [(place, scaled(coefficients(p, w)[2], (4, 1))), (low, UNIT)])
    branch.open_equations.append(branch.joins(("root", square, separant, 2), separant))
    return ("zero", chain)


def by_common_part(scope, branch, place, w):
    """What is known of the separant of an equation of a degree above 2 whose discriminant is 0."""
    p = branch.equations[place]
    separant = partial(p, w)
    word, found = common_part(scope, branch, p, separant, w)
    if word == "none":
        return asked_separant(scope, branch, place, separant)
    if word == "split":
        return (word, found)
    h, a, b = found
    word, chain = verdict(scope, branch, h)
    if word == "nonzero":
        low = placed_nonzero(scope, branch, h, chain)
        high = place_nonzero(scope, branch, ((low, 1),), [(place, scaled(a, (-1, 1)))])
        note(scope, branch, place_divisor(scope, branch, ((high, 1),), separant, b))
    return (word, chain)


def insert(scope, branch, place, w):
    """Makes E[place] the solved member of the leader w."""
    if w in branch.solved:
        branch.open_equations.append(branch.solved[w])
        del branch.solved[w]
    for v in list(branch.solved):
        at = branch.solved[v]
        if scope.with_rates and has_rate(branch.equations[at], w):
            branch.open_equations.append(at)
            del branch.solved[v]
    branch.solved[w] = place
    for at in list(branch.kept):
        m = branch.inequations[at]
        if scope.highest(m) == w or scope.with_rates and has_rate(m, w):
            branch.kept.remove(at)
            branch.open_inequations.append(at)


def has_rate(p, w):
    """Whether a proper rate of the letter w stands in p."""
    for monomial, _ in p:
        for v, _ in monomial:
            if v[0] == w[0] and v[1] > w[1]:
                return True
    return False
