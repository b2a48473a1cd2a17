"""A second judge of starts and of papers that something does not follow, from the words of points 39, 40, 43, 44."""

from ratesay.polynomials import is_letter, is_polynomial, letters_of, plus, put, times
from ratesay.rates import rates
from ratesay.rankings import leader, separant
from ratesay.simple import is_case
from ratesay.towers import degree_of, is_inverse, is_tower, rest_of


def is_number(tower, u):
    """Whether any value is a number of a tower."""
    if not is_polynomial(u) or any(v[0] != "root" or v[1] >= len(tower) for v in letters_of(u)):
        return False
    return rest_of(tower, u) == u


def worth(tower, table, p):
    """The value of p, None if a letter has none."""
    if any(v not in table for v in letters_of(p)):
        return None
    return rest_of(tower, put(p, tuple((v, table[v]) for v in letters_of(p))))


def inverts(tower, table, p, turn):
    """Whether a value is the inverse of the value of p."""
    found = worth(tower, table, p)
    return found is not None and is_number(tower, turn) and is_inverse(tower, found, turn)


def are_inverse(tower, table, row, turns):
    """Whether any value has the inverses of the values of a row of polynomials."""
    return type(turns) is tuple and len(turns) == len(row) and all(inverts(tower, table, p, u) for p, u in zip(row, turns))


def table_of(case, ranking, value):
    """The dict of the values of any value that is a start, otherwise None."""
    if type(value) is not tuple or len(value) != 4 or not is_tower(value[0]):
        return None
    tower, rows, separants, turns = value
    if len(tower) > 6 or degree_of(tower) > 64 or type(rows) is not tuple:
        return None
    for row in rows:
        if type(row) is not tuple or len(row) != 2 or not is_letter(row[0]) or not is_number(tower, row[1]):
            return None
    order = [v for v, _ in rows]
    names = [name for block in ranking for name in block]
    if order != sorted(set(order)) or {v[0] for v in order} != set(names):
        return None
    tops = {name: max(k for other, k in order if other == name) for name in names}
    if len(order) != sum(top + 1 for top in tops.values()) or max(tops.values(), default=0) > 24:
        return None
    table = dict(rows)
    for p in [*case[0], *case[1]]:
        if worth(tower, table, p) is None:
            return None
    for a in case[0]:
        name, o = leader(a, ranking)
        p = a
        for _ in range(tops[name] - o + 1):
            if worth(tower, table, p) != ():
                return None
            p = rates(p, 1)[1]
    if not are_inverse(tower, table, [separant(a, ranking) for a in case[0]], separants):
        return None
    return table if are_inverse(tower, table, case[1], turns) else None


def is_home_row(p, case, tower, table, value):
    """Whether any value is a right (s, rows, inverse) for an equation p."""
    if type(value) is not tuple or len(value) != 3 or not is_polynomial(value[0]) or type(value[1]) is not tuple:
        return False
    s, rows, turn = value
    total, last = (), None
    for row in rows:
        if type(row) is not tuple or len(row) != 3 or not is_polynomial(row[2]) or not row[2]:
            return False
        i, j, c = row
        if type(i) is not int or type(j) is not int or not 0 <= i < len(case[0]) or not 0 <= j <= 24:
            return False
        if last is not None and (i, j) <= last:
            return False
        last = (i, j)
        q = case[0][i]
        for _ in range(j):
            q = rates(q, 1)[1]
        total = plus(total, times(c, q))
    return total == times(s, p) and inverts(tower, table, s, turn)


def is_refusal(pair, f, ranking, paper):
    """Whether any value is a right paper of an answer "no"."""
    if type(paper) is not tuple or len(paper) != 4 or not is_case(paper[0], ranking):
        return False
    case, start, homes, units = paper
    table = table_of(case, ranking, start)
    if table is None or type(homes) is not tuple or len(homes) != len(pair[0]):
        return False
    if not all(is_home_row(p, case, start[0], table, row) for p, row in zip(pair[0], homes)):
        return False
    return are_inverse(start[0], table, [*pair[1], f], units)
