"""Finding a start of a simple case, letter after letter."""

from ratesay.branches import Branch, Scope, note
from ratesay.courses import extend, highest_orders, raise_lengths, value_of
from ratesay.errors import TooMany
from ratesay.factors import factors_of
from ratesay.points import MOST_DEGREE, MOST_MEMBERS, MOST_ORDER
from ratesay.polynomials import UNIT, as_number, coefficients, degree, joined, letters_of, number, scaled
from ratesay.rankings import highest, key_of
from ratesay.ratios import inverted
from ratesay.tower_numbers import (
    made_monic,
    monic_quotient,
    product,
    rest,
    root_letter,
    tower_degree,
    unit_part,
)
from ratesay.verdicts import brought_down

MOST_SPENT = 2900000
MOST_RATE = 3000


class Point:
    """A tower and values of letters in it; the tower goes on with a part of itself where that is needed."""

    def __init__(self):
        self.tower = ()
        self.numbers = {}

    def value(self, p):
        """The value of a polynomial whose letters have values."""
        table = {}
        for v in letters_of(p):
            numbers = table.setdefault(v[0], [])
            while len(numbers) <= v[1]:
                numbers.append(self.numbers.get((v[0], len(numbers)), ()))
        return value_of(p, self.tower, table)

    def goes_on(self, tower):
        """Goes on with a part of the tower."""
        if tower != self.tower:
            self.tower = tower
            self.numbers = {v: rest(tower, u) for v, u in self.numbers.items()}

    def unit(self, u):
        """The inverse of a number that is not 0 at all zeros, where the tower goes on with a part of itself."""
        found = unit_part(self.tower, rest(self.tower, u))
        if found is None:
            raise TooMany()
        self.goes_on(found[0])
        return found[1]

    def inverse_of(self, p):
        """The inverse of the value of a polynomial."""
        return self.unit(self.value(p))


def case_branch(scope, case):
    """A branch at which the equations of a case are solved, and its inequations known."""
    equations, inequations = case
    found = Branch(list(equations), list(inequations), case, 0)
    for k, p in enumerate(equations):
        found.solved[scope.highest(p)] = k
    for k in range(len(inequations)):
        note(scope, found, k)
    return found


def rest_in_case(case, places, f):
    """A polynomial reduced by a simple case that is 0 at just those of its solutions at which f is."""
    if not f:
        return ()
    scope = Scope(places, True, MOST_SPENT)
    return brought_down(scope, case_branch(scope, case), f)[1]


def high_parts(r, places):
    """The dict from letters to r, its highest coefficient by its highest letter, that one's, and so on."""
    found = {}
    while as_number(r) is None:
        v = highest(r, places)
        found[v] = r
        r = coefficients(r, v)[-1]
    return found


def letters_asked(case, r, places, names):
    """The letters that get values one by one, ascending."""
    seen = {(name, 0): True for name in names}
    for p in [*case[0], *case[1], r]:
        for name, order in highest_orders(p).items():
            for k in range(order + 1):
                seen[(name, k)] = True
    return [v for _, v in sorted([(key_of(places, v), v) for v in seen])]


def found_point(case, members, places, r, spread):
    """A point of a simple case at which r, reduced by it, is not 0.

    Without spread, 0 or 1, the numbers that can be chosen are about 0, with it they are unlike.
    """
    heads = {member.leader: member for member in members}
    highs = high_parts(r, places)
    kept = {}
    for m in case[1]:
        kept.setdefault(highest(m, places), []).append(m)
    point = Point()
    for k, v in enumerate(letters_asked(case, r, places, sorted(places))):
        if v in heads:
            choose_root(point, heads[v], highs.get(v))
        else:
            rows = list(kept.get(v, []))
            if v in highs:
                rows.append(highs[v])
            choose_number(point, v, rows, spread * (k + 2))
    return point


def choose_number(point, v, rows, base):
    """Gives a letter that leads no equation a number, about base, at which some polynomials are not 0."""
    t = 0
    while True:
        point.numbers[v] = number((base + t, 1))
        worth = UNIT
        for p in rows:
            worth = product(point.tower, worth, point.value(p))
        if worth:
            point.unit(worth)
            return
        t = 1 - t if t <= 0 else -t


def choose_root(point, member, high):
    """Gives the leader of an equation a root of it, at which a polynomial, None for none, is not 0."""
    v = member.leader
    w = root_letter(len(point.tower))
    parts = coefficients(member.p, v)
    turn = point.inverse_of(parts[-1])
    b = joined(tuple([product(point.tower, point.value(c), turn) for c in parts]), w)
    if high is not None:
        other = joined(tuple([point.value(c) for c in coefficients(high, v)]), w)
        b = without_common(point, b, other, w)
    b = least_factor(b, w)
    if degree(b, w) == 1:
        point.numbers[v] = scaled(coefficients(b, w)[0], (-1, 1))
        return
    tower = (*point.tower, b)
    if len(tower) > MOST_MEMBERS or tower_degree(tower) > MOST_DEGREE:
        raise TooMany()
    point.tower = tower
    point.numbers[v] = ((((w, 1),), (1, 1)),)


def without_common(point, b, other, w):
    """b, a polynomial over the tower, divided by what it has in common with another one."""
    a, c = b, other
    while c:
        found = made_monic(point.tower, c, w)
        if type(found) is list:
            # Any part will do; the one of least degree makes the least work.
            lower = min([(tower_degree(part), part) for part in found])[1]
            point.goes_on(lower)
            b, other = [with_rests(lower, p, w) for p in (b, other)]
            a, c = b, other
        else:
            a, c = found[0], monic_quotient(point.tower, a, found[0], w)[1]
    if degree(a, w) < 1:
        return b
    return monic_quotient(point.tower, b, a, w)[0]


def with_rests(tower, p, w):
    """A polynomial over a tower with its coefficients reduced by a part of the tower."""
    return joined(tuple([rest(tower, c) for c in coefficients(p, w)]), w)


def least_factor(b, w):
    """A factor of least degree, among those that are easily found, with the highest coefficient 1."""
    for c in coefficients(b, w):
        if as_number(c) is None:
            return b
    found = min([(degree(p, w), p) for p in factors_of(b)])[1]
    return scaled(found, inverted(coefficients(found, w)[-1][0][1]))


def lists_of(point, members, places, polynomials):
    """The pair of the lists of values, so far, and their lengths, as far as some polynomials ask."""
    table = {}
    lengths = {}
    orders = {member.leader[0]: member.leader[1] for member in members}
    for name in sorted(places):
        numbers = []
        while (name, len(numbers)) in point.numbers:
            numbers.append(point.numbers[(name, len(numbers))])
        table[name] = numbers
        lengths[name] = max(len(numbers) - 1, orders.get(name, 0))
    for p in polynomials:
        for name, order in highest_orders(p).items():
            lengths[name] = max(order, lengths[name])
    raise_lengths(lengths, members)
    check_lengths(members, lengths)
    return (table, lengths)


def check_lengths(members, lengths):
    """TooMany if a start with such lengths would be beyond the bounds."""
    for name in lengths:
        if lengths[name] > MOST_ORDER:
            raise TooMany()
    for member in members:
        if member.rate_within(lengths[member.leader[0]] - member.leader[1], MOST_RATE) is None:
            raise TooMany()


def start_at(case, members, places, point, polynomials):
    """The triple (start, table, turns): a start that begins with a point, and the inverses of some polynomials."""
    turns = [point.inverse_of(member.separant) for member in members]
    turns = [rest(point.tower, u) for u in turns]
    table, lengths = lists_of(point, members, places, polynomials)
    extend(members, turns, point.tower, table, lengths, places)
    for name, numbers in table.items():
        for k, u in enumerate(numbers):
            point.numbers[(name, k)] = u
    others = [point.inverse_of(m) for m in case[1]]
    told = [point.inverse_of(p) for p in polynomials]
    tower = point.tower
    rows = tuple([(v, point.numbers[v]) for v in sorted(point.numbers)])
    separants = tuple([rest(tower, u) for u in turns])
    start = (tower, rows, separants, tuple([rest(tower, u) for u in others]))
    return (start, [rest(tower, u) for u in told])
