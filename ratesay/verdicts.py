"""Whether a polynomial is 0 at a branch, is not 0 there, or what to split by; and the steps that show it.

A chain is a list of rows that bring a polynomial down. A row is
("step", before, a, refs, f, powers, after): a before = the sum of all m times the j-th rate
of E[place], refs having the (place, j, m), plus f times the product of powers times after;
("parts", before, pieces): before is a product of polynomials of which pieces has the chains;
("chain", before, place, a, b, r, chain): r = a E[place] + b before, with the chain of r.
"""

from ratesay.branches import (
    next_step,
    note,
    place_divisor,
    place_nonzero,
    place_sum,
    place_without,
    rate_of,
    rate_place,
    stripped,
    widest,
)
from ratesay.chains import chain_of, other_multiple, resultant
from ratesay.polynomials import UNIT, as_number, coefficients, degree, less, letters_of, number, quotient, scaled, times
from ratesay.ratios import inverted
from ratesay.treesteps import power_product

# Resultants are worked out of what has at most so many pairs and degrees, multiplied.
MOST_CHAIN = 4000
MOST_ALONE = 1600
MOST_BITS = 12000


def brought_down(scope, branch, h):
    """The pair (chain, rest) of h without known factors, reduced by the solved members."""
    f, powers, g = stripped(branch, h)
    chain = []
    if powers or g != h:
        chain.append(("step", h, UNIT, (), f, powers, g))
    while g and as_number(g) is None:
        step = next_step(scope, branch, g)
        if step is None:
            break
        a, (place, j, m) = step
        rate = rate_of(scope, branch, place, j)
        scope.toil(len(a) * len(g) + len(m) * len(rate) + len(g) * len(branch.parts))
        r = less(times(a, g), times(m, rate))
        scope.weigh(r)
        f, powers, rest = stripped(branch, r) if r else ((1, 1), (), ())
        chain.append(("step", g, a, ((place, j, m),), f, powers, rest))
        g = rest
    return (chain, g)


def verdict(scope, branch, h):
    """("zero", chain), ("nonzero", chain), or ("split", polynomial) for a polynomial h other than 0."""
    chain, g = brought_down(scope, branch, h)
    if not g:
        return ("zero", chain)
    if as_number(g) is not None:
        return ("nonzero", chain)
    pieces = []
    asked = []
    for part in scope.pieces(g):
        word, found = part_verdict(scope, branch, part)
        if word == "nonzero":
            pieces.append((part, found))
        else:
            asked.append((scope.rank(found), found))
    if asked:
        return ("split", min(asked)[1])
    chain.append(("parts", g, pieces))
    return ("nonzero", chain)


def part_verdict(scope, branch, part):
    """("nonzero", chain) or ("split", polynomial) for a reduced polynomial without known factors."""
    w = scope.highest(part)
    if w not in branch.solved:
        return ("split", part)
    place = branch.solved[w]
    found = common(scope, branch.equations[place], part, w)
    if found is None or not found[0]:
        return ("split", part)
    r, a, b = found
    word, rest = verdict(scope, branch, r)
    if word == "zero":
        return ("split", part)
    if word == "split":
        return (word, rest)
    return ("nonzero", [("chain", part, place, a, b, r, rest)])


def common(scope, g, p, w):
    """The resultant of g and p with its multipliers, or None if it may be too great."""
    return resultant(g, p, w) if may_be_chained(scope, g, p, w) else None


def may_be_chained(scope, g, p, w):
    """Whether the subresultants of g and p may be worked out; then they count as tried."""
    m, n = degree(g, w), degree(p, w)
    if n < 1 or n > m:
        return False
    alone = letters_of(g) == (w,) and letters_of(p) == (w,)
    if m * n > MOST_ALONE if alone else len(g) * len(p) * m * n > MOST_CHAIN:
        return False
    bits = m * widest(p) + n * widest(g)
    if bits > MOST_BITS:
        return False
    scope.toil(len(g) * len(p) * m * n * (1 + bits // 500))
    return True


def common_part(scope, branch, g, p, w):
    """What g and p have in common where their resultant is 0: ("found", (r, a, b)), ("split", h) or ("none", None).

    r = a g + b p has the leader w and a highest coefficient that is placed as not 0; all subresultants below it
    are 0. There is none if that may be too great, or if it is p.
    """
    if not may_be_chained(scope, g, p, w):
        return ("none", None)
    for r, b in reversed(chain_of(g, p, w)):
        if degree(r, w) < 1:
            continue
        lead = coefficients(r, w)[-1]
        word, found = verdict(scope, branch, lead)
        if word == "split":
            return (word, found)
        if word == "nonzero":
            placed_nonzero(scope, branch, lead, found)
            return ("found", (r, other_multiple(g, p, r, b), b))
    return ("none", None)


def placed_nonzero(scope, branch, h, chain):
    """The place in N of h, which a chain shows not to be 0."""
    known = ()
    for row in reversed(chain):
        if row[0] == "step":
            known = ((unstepped(scope, branch, row, known), 1),)
        elif row[0] == "parts":
            known = ((unparted(scope, branch, row), 1),)
        else:
            known = ((unchained(scope, branch, row), 1),)
    if not chain:
        known = ((place_divisor(scope, branch, (), h, number(inverted(as_number(h)))), 1),)
    note(scope, branch, known[0][0])
    return known[0][0]


def merged_powers(first, second):
    """The power row of the product of two."""
    powers = {place: e for place, e in first}
    for place, e in second:
        powers[place] = powers.get(place, 0) + e
    return tuple([(place, powers[place]) for place in sorted(powers)])


def unstepped(scope, branch, row, known):
    """The place in N of what a row brings down, when the power row of what it comes to is known."""
    _, before, a, refs, f, powers, _ = row
    whole = merged_powers(powers, known)
    if not refs:
        if len(whole) == 1 and whole[0][1] == 1 and branch.inequations[whole[0][0]] == before:
            return whole[0][0]
        return place_divisor(scope, branch, whole, before, UNIT)
    turn = inverted(f)
    rows = [(rate_place(scope, branch, place, j), scaled(m, turn)) for place, j, m in refs]
    place = place_nonzero(scope, branch, whole, rows)
    if a == UNIT and f == (1, 1):
        return place
    return place_divisor(scope, branch, ((place, 1),), before, a)


def unparted(scope, branch, row):
    """The place in N of a product whose factors are shown not to be 0."""
    _, before, pieces = row
    powers = {}
    rest = before
    for part, chain in pieces:
        place = placed_nonzero(scope, branch, part, chain)
        powers[place] = 0
        q = quotient(rest, part)
        while q is not None:
            powers[place] += 1
            rest = q
            q = quotient(rest, part)
    told = tuple([(place, powers[place]) for place in sorted(powers) if powers[place]])
    if len(told) == 1 and told[0][1] == 1 and branch.inequations[told[0][0]] == before:
        return told[0][0]
    return place_divisor(scope, branch, told, before, UNIT)


def unchained(scope, branch, row):
    """The place in N of a polynomial whose resultant with a solved member is shown not to be 0."""
    _, before, place, a, b, r, chain = row
    low = placed_nonzero(scope, branch, r, chain)
    high = place_nonzero(scope, branch, ((low, 1),), [(place, scaled(a, (-1, 1)))])
    if b == UNIT:
        return high
    return place_divisor(scope, branch, ((high, 1),), before, b)


def placed_zero(scope, branch, chain, last=None):
    """The place in E of what a chain brings down to 0, or to what stands at the place last in E."""
    below = last
    for _, before, a, refs, f, powers, _ in reversed(chain):
        rows = [(rate_place(scope, branch, place, j), m) for place, j, m in refs]
        if below is not None:
            rows.append((below, scaled(power_product(branch.inequations, powers), f)))
        below = place_sum(scope, branch, rows)
        if a != UNIT:
            _, known, _ = stripped(branch, a)
            below = place_without(scope, branch, below, before, known)
    return below


def placed_by(scope, branch, h, place):
    """The place in E of a polynomial h that is 0 as E[place] is, if that is easily seen, otherwise None."""
    chain, g = brought_down(scope, branch, h)
    last = None
    if g:
        q = quotient(g, branch.equations[place])
        if q is None:
            return None
        last = place_sum(scope, branch, [(place, q)])
    return placed_zero(scope, branch, chain, last)
