"""Told systems made of others: joined, renamed, integrals, quotients, put in, turned, roots, told by an equation."""

from ratesay.errors import BadFraction, BadName, BadPairs, BadPolynomial, Clash, NoFunction
from ratesay.explicits import along, check_own, check_to, check_told, is_own, names_in, start_table, value_at
from ratesay.forms import is_fraction, is_name, is_pair
from ratesay.packing import sum_of_products
from ratesay.polynomials import letter, letters_of, partial, plus, raised, scaled, times
from ratesay.ratios import ZERO, integer_power, inverted
from ratesay.renaming import with_names

LEAST_ROOT = 2
MOST_ROOT = 6
AGAINST = (-1, 1)


def check_name(name):
    """BadName if a value is no name."""
    if not is_name(name):
        raise BadName(name)


def check_fraction(f):
    """BadFraction if a value is no fraction."""
    if not is_fraction(f):
        raise BadFraction()


def check_new(T, names):
    """Clash for the first of some new names that stands in T, or ahead of it among them."""
    taken = names_in(T[0])
    for name in names:
        if name in taken:
            raise Clash(name)
        taken.append(name)


def made(rows):
    """The told system of a list of (name, polynomial, start)."""
    ordered = sorted(rows)
    return (tuple([(name, p) for name, p, _ in ordered]), tuple([f for _, _, f in ordered]))


def rows_of(T):
    """The list of (name, polynomial, start) of a told system."""
    return [(name, p, f) for (name, p), f in zip(T[0], T[1])]


def check_apart(T, S):
    """Clash for the least name that two told systems have in common."""
    others = names_in(S[0])
    common = [name for name in names_in(T[0]) if name in others]
    if common:
        raise Clash(min(common))


def joined(T, S):
    """Two told systems without a common name as one."""
    check_told(T)
    check_told(S)
    check_apart(T, S)
    return made([*rows_of(T), *rows_of(S)])


def are_pairs(names, value):
    """Whether any value is a tuple of (old, new): old ones are among some names, each once, new ones are names."""
    if type(value) is not tuple:
        return False
    seen = []
    for pair in value:
        if not is_pair(pair) or pair[0] not in names or pair[0] in seen or not is_name(pair[1]):
            return False
        seen.append(pair[0])
    return True


def renamed(T, pairs):
    """The told system with new names for some names."""
    check_told(T)
    names = names_in(T[0])
    if not are_pairs(names, pairs):
        raise BadPairs()
    table = {old: new for old, new in pairs}
    told = [table.get(name, name) for name in names]
    twice = [name for name in told if told.count(name) > 1]
    if twice:
        raise Clash(min(twice))
    return made([(table.get(name, name), with_names(p, table), f) for name, p, f in rows_of(T)])


def with_integral(T, name, f, a):
    """T with a function that has the rate f, and begins with a."""
    check_told(T)
    check_name(name)
    check_own(T[0], f)
    check_fraction(a)
    check_new(T, (name,))
    return made([*rows_of(T), (name, f, a)])


def with_quotient(T, name, h):
    """T with the function 1 / h."""
    check_told(T)
    check_name(name)
    check_own(T[0], h)
    check_new(T, (name,))
    worth = value_at(h, start_table(T))
    if worth == ZERO:
        raise NoFunction("quotient")
    slope = scaled(times(raised(letter(name, 0), 2), along(T[0], h)), AGAINST)
    return made([*rows_of(T), (name, slope, inverted(worth))])


def put_in(T, f, S):
    """T with the functions of S at f(t) in the place of t."""
    check_told(T)
    check_own(T[0], f)
    check_told(S)
    check_apart(T, S)
    if value_at(f, start_table(T)) != ZERO:
        raise NoFunction("put in")
    rate = along(T[0], f)
    return made([*rows_of(T), *[(name, times(q, rate), c) for name, q, c in rows_of(S)]])


def turned(T, f, z, w):
    """The functions of T at the time w at which f is t, with z for the rate of w."""
    check_told(T)
    check_own(T[0], f)
    check_name(z)
    check_name(w)
    check_new(T, (z, w))
    table = start_table(T)
    rate = along(T[0], f)
    worth = value_at(rate, table)
    if value_at(f, table) != ZERO or worth == ZERO:
        raise NoFunction("turned")
    factor = letter(z, 0)
    rows = [(name, times(p, factor), c) for name, p, c in rows_of(T)]
    slope = scaled(times(raised(factor, 3), along(T[0], rate)), AGAINST)
    return made([*rows, (z, slope, inverted(worth)), (w, factor, ZERO)])


def with_root(T, r, v, m, f, a):
    """T with the m-th root of f that begins with a, and one divided by it."""
    check_told(T)
    check_name(r)
    check_name(v)
    check_to(m, LEAST_ROOT, MOST_ROOT)
    check_own(T[0], f)
    check_fraction(a)
    check_new(T, (r, v))
    if a == ZERO or (integer_power(a[0], m), integer_power(a[1], m)) != value_at(f, start_table(T)):
        raise NoFunction("root")
    rate = scaled(along(T[0], f), (1, m))
    other = letter(v, 0)
    rows = [(r, times(rate, raised(other, m - 1)), a)]
    rows.append((v, scaled(times(rate, raised(other, m + 1)), AGAINST), inverted(a)))
    return made([*rows_of(T), *rows])


def partial_along(g, p):
    """The rate of p along g with the letters that g lacks held fast."""
    table = {(name, 0): q for name, q in g}
    return sum_of_products([(partial(p, v), table[v]) for v in letters_of(p) if v in table])


def with_equation(T, w, z, p, b):
    """T with the function w that begins with b and has p = 0, and z, one divided by the derivative of p by w."""
    check_told(T)
    check_name(w)
    check_name(z)
    if not is_own([*names_in(T[0]), w], p):
        raise BadPolynomial()
    check_fraction(b)
    check_new(T, (w, z))
    table = start_table(T)
    table[(w, 0)] = b
    q = partial(p, (w, 0))
    worth = value_at(q, table)
    if value_at(p, table) != ZERO or worth == ZERO:
        raise NoFunction("equation")
    rate = scaled(times(partial_along(T[0], p), letter(z, 0)), AGAINST)
    # The rate of q along the whole: (D q) + (dq/dw) w'.
    turn = plus(partial_along(T[0], q), times(partial(q, (w, 0)), rate))
    slope = scaled(times(raised(letter(z, 0), 2), turn), AGAINST)
    return made([*rows_of(T), (w, rate, b), (z, slope, inverted(worth))])
