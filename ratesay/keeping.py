"""Which sets of points are kept along explicit equations: papers found and judged."""

from math import factorial

from ratesay.errors import TooMany
from ratesay.explicits import along, names_in
from ratesay.following import answer_about
from ratesay.forms import is_count
from ratesay.multiples import multipliers_within
from ratesay.packing import sum_of_products
from ratesay.polynomials import UNIT, common_divisor, partial, plus, quotient, scaled, times
from ratesay.rankings import places_of
from ratesay.timed import are_own
from ratesay.tower_numbers import is_number_in, is_tower_value, product
from ratesay.towerflows import TowerFlow
from ratesay.trees import is_shown

MOST_RATE = 60
# Points that leave a set are looked for up to this rate.
FURTHEST = 12
# Multiples of rates are looked for up to this rate and this degree.
MOST_TOP = 6
MOST_FACTOR = 2
MOST_PAIRS = 3000


def kept_paper(g, ps):
    """A paper whether the set where all ps are 0 is kept."""
    found = one_kept(g, ps[0]) if len(ps) == 1 else None
    if found is None and len(ps) > 1:
        found = common_kept(g, ps)
    if found is not None:
        return found
    return left_paper(g, ps) if len(ps) == 1 or len(g) < 3 else searched_paper(g, ps)


def one_kept(g, p):
    """The paper that the set where p is 0 is kept, None if it is not."""
    factor = quotient(along(g, p), p)
    return None if factor is None else ("kept", (p,), ((factor,),), ())


def asked(g, ps, f):
    """The answer whether f is 0 wherever all ps are 0; ("unknown", None) if that is too great a question."""
    try:
        return answer_about((ps, ()), f, places_of((tuple(names_in(g)),)))
    except TooMany:
        return ("unknown", None)


def common_kept(g, ps):
    """The paper that ps are 0 on a kept set of one equation and at points at rest alone; None if this is not so."""
    h = ()
    for p in ps:
        h = common_divisor(h, p)
    factor = quotient(along(g, h), h)
    if factor is None:
        return None
    moved = [(name, times(h, p)) for name, p in g if p]
    trees = []
    for _, p in moved:
        word, tree = asked(g, ps, p)
        if word != "yes":
            return None
        trees.append(tree)
    members = (*ps, *[p for _, p in moved])
    slopes = [*[quotient(p, h) for p in ps], *[p for _, p in g if p]]
    rows = []
    for at, p in enumerate(slopes):
        row = [factor if k == at else () for k in range(len(members))]
        for k, (name, _) in enumerate(moved):
            row[len(ps) + k] = plus(row[len(ps) + k], partial(p, (name, 0)))
        rows.append(tuple(row))
    return ("kept", members, tuple(rows), tuple(trees))


def left_from(i, k, paper):
    """The paper that a point at which the k-th rate of the member i is not 0 leaves the set."""
    start, turns = paper[1], paper[3]
    point = tuple([u for v, u in start[1] if v[1] == 0])
    return ("left", start[0], point, i, k, turns[-1])


def left_paper(g, ps):
    """The paper that some point leaves the set where all ps are 0."""
    rates = list(ps)
    for k in range(1, FURTHEST + 1):
        rates = [along(g, p) for p in rates]
        for i, p in enumerate(rates):
            word, paper = asked(g, ps, p)
            if word == "no":
                return left_from(i, k, paper)
    raise TooMany()


def searched_paper(g, ps):
    """A paper whether the set is kept: a rate is not 0 on it, or all further ones are multiples of those ahead."""
    table = [list(ps)]
    trees = []
    for k in range(1, MOST_TOP + 1):
        rates = [along(g, p) for p in table[-1]]
        if max([len(p) for p in rates]) > MOST_PAIRS:
            break
        for n in range(MOST_FACTOR + 1):
            found = rows_within(table, rates, n)
            if found is not None:
                return ("kept", tuple([p for row in table for p in row]), found, tuple(trees))
        for i, p in enumerate(rates):
            word, paper = asked(g, ps, p)
            if word == "no":
                return left_from(i, k, paper)
            if word != "yes":
                raise TooMany()
            trees.append(paper)
        table.append(rates)
    raise TooMany()


def rows_within(table, rates, n):
    """The rows that tell the rates of all members of a table, the last ones by multipliers of degree n, or None."""
    members = [p for row in table for p in row]
    count = len(rates)
    rows = []
    for at in range(len(members) - count):
        rows.append(tuple([UNIT if k == at + count else () for k in range(len(members))]))
    for p in rates:
        found = multipliers_within(p, members, n)
        if found is None:
            return None
        rows.append(found)
    return tuple(rows)


def is_kept_paper(g, ps, members, rows, trees):
    """Whether any values show that the set where all ps are 0 is kept."""
    names = names_in(g)
    if not are_own(names, members) or members[:len(ps)] != ps or type(rows) is not tuple or len(rows) != len(members):
        return False
    if type(trees) is not tuple or len(trees) != len(members) - len(ps):
        return False
    for p, row in zip(members, rows):
        if not are_own(names, row) or len(row) != len(members):
            return False
        if along(g, p) != sum_of_products(list(zip(row, members))):
            return False
    for p, tree in zip(members[len(ps):], trees):
        if not is_shown((ps, ()), p, tree):
            return False
    return True


def is_left_paper(g, ps, value):
    """Whether any tuple of five shows that a point leaves the set where all ps are 0."""
    tower, point, i, k, turn = value
    if not is_tower_value(tower) or type(point) is not tuple or len(point) != len(g):
        return False
    for u in [*point, turn]:
        if not is_number_in(tower, u):
            return False
    if not is_count(i, 0) or i >= len(ps) or not is_count(k, 1) or k > MOST_RATE:
        return False
    flow = TowerFlow(g, tower, point)
    for p in ps:
        if flow.coefficient(p, 0):
            return False
    flow.reach(k)
    worth = scaled(flow.coefficient(ps[i], k), (factorial(k), 1))
    return product(tower, worth, turn) == UNIT
