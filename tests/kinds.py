"""Random questions of the light kinds of points 38 and 56, at their edges too."""

from ratesay.polynomials import less, letter, letters_of, number, plus, put, scaled, times
from ratesay.rates import rates

NAMES = ("x", "y", "z")
KINDS = ("F1", "F2", "F3", "F4", "F5", "F6")


def letters(names, orders):
    """The letters of names with some orders."""
    return [(name, k) for name in names for k in orders]


def polynomial(rng, among, degree, pairs, most=9):
    """A polynomial with at most so many pairs, often just as many, with integers as coefficients."""
    table = {}
    count = pairs if rng.random() < 0.7 else rng.randint(1, pairs)
    for _ in range(40):
        if len(table) == count:
            break
        exponents = {}
        for _ in range(degree if rng.random() < 0.5 else rng.randint(0, degree)):
            v = rng.choice(among)
            exponents[v] = exponents.get(v, 0) + 1
        size = most if rng.random() < 0.3 else rng.randint(1, most)
        table[tuple(sorted(exponents.items()))] = (rng.choice([-1, 1]) * size, 1)
    return tuple(sorted(table.items()))


def ranking(rng, names, one=False):
    """A ranking of names: of one block, of several, or mixed."""
    left = list(names)
    rng.shuffle(left)
    if one:
        return (tuple(left),)
    blocks = [[left[0]]]
    for name in left[1:]:
        if rng.random() < 0.5:
            blocks[-1].append(name)
        else:
            blocks.append([name])
    return tuple(tuple(block) for block in blocks)


def degree_of(p):
    """The greatest sum of the exponents of a monomial."""
    return max([sum(e for _, e in monomial) for monomial, _ in p], default=0)


def has_rate(p):
    """Whether a letter of order 1 or more stands in p."""
    return any(k for _, k in letters_of(p))


def further(rng, names):
    """The inequation that point 38 allows besides F1, F2 and F4: none or one."""
    if rng.random() < 0.5:
        return []
    if rng.random() < 0.5:
        return [polynomial(rng, letters(names, [0]), 2, 3)]
    return [polynomial(rng, letters(names, [0, 1]), 1, 3)]


def slopes(rng, names, told):
    """The g_i of F1."""
    if len(names) < 3:
        return [polynomial(rng, letters(names, [0]), 2, 3) for _ in names]
    if rng.random() < 0.5:
        return [polynomial(rng, letters(names, [0]), 1, 3) for _ in names]
    place = {name: k for k, block in enumerate(told) for name in block}
    found = []
    for i, name in enumerate(names):
        below = [other for other in names[:i] if place[other] >= place[name]]
        if below:
            found.append(polynomial(rng, letters(below, [0]), 2, 3))
        else:
            found.append(number((rng.randint(-9, 9), 1)))
    return found


def first(rng, count=None, more=True):
    """F1."""
    names = NAMES[:count or rng.choice([1, 2, 2, 3])]
    told = ranking(rng, names)
    equations = [less(letter(name, 1), g) for name, g in zip(names, slopes(rng, names, told))]
    inequations = further(rng, names) if more else []
    if more and rng.random() < 0.7:
        if rng.random() < 0.5:
            equations.append(polynomial(rng, letters(names, [0]), 1 if len(names) == 3 else 2, 3))
        else:
            inequations.append(polynomial(rng, letters(names, [0]), 2, 3))
    return ((tuple(equations), tuple(inequations)), told)


def second(rng):
    """F2."""
    if rng.random() < 0.5:
        p = polynomial(rng, letters(["x"], [0, 1, 2]), 2, 4)
    else:
        p = polynomial(rng, letters(["x"], [0, 1]), 3, 4)
    inequations = [letter("x", rng.randint(0, 2))] if rng.random() < 0.5 else []
    return (((p,), tuple(inequations + further(rng, ["x"]))), (("x",),))


def third(rng, plain=False):
    """F3; with plain the one for plain_parts alone."""
    while True:
        pair = [polynomial(rng, letters("xy", [0, 1]), rng.randint(1, 2), 3) for _ in range(2)]
        hard = [p for p in pair if degree_of(p) == 2 and has_rate(p)]
        if len(hard) <= 1 and (plain or all(len(p) <= 2 for p in hard)):
            return ((tuple(pair), ()), ranking(rng, "xy"))


def fourth(rng):
    """F4."""
    names = NAMES[:rng.randint(1, 3)]
    count = rng.randint(1, 3)
    equations = [polynomial(rng, letters(names, [0, 1, 2]), 1, rng.randint(2, 6)) for _ in range(count)]
    return ((tuple(equations), tuple(further(rng, names))), ranking(rng, names))


def shifted(p, name, h):
    """p with name + h in the place of the name."""
    rows = [(v, plus(letter(*v), rates(h, v[1])[v[1]])) for v in letters_of(p) if v[0] == name]
    return put(p, tuple(rows))


def fifth(rng):
    """F5."""
    (equations, _), told = first(rng, rng.randint(1, 2), False)
    if len(equations) == 2 and rng.random() < 0.8:
        name, other = rng.choice([("x", "y"), ("y", "x")])
        h = polynomial(rng, [(other, 0)], 2, 2)
        equations = tuple(shifted(p, name, h) for p in equations)
    if len(equations) == 2 and rng.random() < 0.6:
        low, high = equations
        equations = (plus(low, scaled(high, (rng.choice([-9, -1, 2, 9]), 1))), high)
    names = sorted({name for block in told for name in block})
    return ((equations, ()), ranking(rng, names, True))


def sixth(rng):
    """F6."""
    names = NAMES[:rng.randint(1, 3)]
    among = letters(names, [0, 1])
    while True:
        rows = ([], [])
        kind = rng.randint(0, 4)
        if kind == 0:
            for _ in range(rng.randint(1, 4)):
                rows[rng.randint(0, 1)].append(polynomial(rng, among, 1, rng.randint(2, 5)))
        elif kind == 1:
            rows[0].append(polynomial(rng, among, 2, 3))
            if rng.random() < 0.5:
                rows[1].append(polynomial(rng, among, 1, 2))
            else:
                rows[1].extend([letter(*rng.choice(among)) for _ in range(rng.randint(0, 2))])
        elif kind == 2:
            rows[0].append(polynomial(rng, among, 2, 2))
            rows[1].extend([polynomial(rng, among, 1, 2) for _ in range(rng.randint(0, 2))])
        elif kind == 3:
            rows[rng.randint(0, 1)].append(polynomial(rng, among, 2, 3))
            rows[0].extend([polynomial(rng, among, 1, 2) for _ in range(rng.randint(0, 2))])
            rows[1].extend([letter(*rng.choice(among)) for _ in range(rng.randint(0, 1))])
            if len(names) == 3 and sum(map(has_rate, rows[0])) > 1:
                continue
        else:
            pair = [polynomial(rng, among, 2, 2) for _ in range(2)]
            if sum(map(has_rate, pair)) > 1:
                continue
            for p in pair:
                rows[rng.randint(0, 1)].append(p)
        return ((tuple(rows[0]), tuple(rows[1])), ranking(rng, names))


MAKERS = {"F1": first, "F2": second, "F3": third, "F4": fourth, "F5": fifth, "F6": sixth}


def question(rng, kind):
    """A system of a kind, and a ranking of its names and perhaps further ones."""
    return MAKERS[kind](rng)


def polynomial_of(rng, system, names):
    """A further polynomial: a number, one that follows, or any one."""
    kind = rng.randint(0, 4)
    if kind == 0 or not names:
        return number((rng.randint(1, 99), 1))
    if kind == 1 and system[0]:
        found = ()
        for p in system[0]:
            found = plus(found, times(rates(p, 1)[rng.randint(0, 1)], polynomial(rng, letters(names, [0]), 1, 1)))
        return found
    return polynomial(rng, letters(names, [0, 1, 2]), 3, 5, 99)


def pair_of_two(rng, names, orders):
    """A polynomial of degree 2 as point 56 asks: just one pair of degree 2."""
    among = letters(names, orders)
    v, w = rng.choice(among), rng.choice(among)
    table = {times(letter(*v), letter(*w))[0][0]: (rng.choice([-9, -2, 1, 3]), 1)}
    for _ in range(rng.randint(0, 1 if v[0] == w[0] else 2)):
        monomial = () if rng.random() < 0.3 else ((rng.choice(among), 1),)
        table[monomial] = (rng.choice([-9, -1, 1, 5, 9]), 1)
    return tuple(sorted(table.items()))


def has_twice(p):
    """Whether a name stands twice in a pair of p."""
    for monomial, _ in p:
        names = [name for (name, _), e in monomial for _ in range(e)]
        if len(set(names)) < len(names):
            return True
    return False


def formula_parts(rng):
    """The names and the polynomials of a light formula."""
    names = NAMES[:rng.randint(1, 3)]
    among = letters(names, [0, 1])
    kind = rng.randint(0, 2)
    if kind == 0:
        return names, [polynomial(rng, among, 1, rng.randint(2, 7)) for _ in range(rng.randint(1, 3))]
    while True:
        if kind == 1:
            rows = [pair_of_two(rng, names, [0, 1])]
            if rng.random() < 0.5:
                rows.extend([polynomial(rng, among, 1, 2) for _ in range(rng.randint(0, 1))])
            else:
                rows.extend([letter(*rng.choice(among)) for _ in range(2)])
            if len(names) < 3 or sum(map(has_rate, rows)) <= 1:
                return names, rows
        else:
            names = names[:2]
            plain = rng.random() < 0.5
            among = letters(names, [0] if plain else [0, 1])
            rows = [polynomial(rng, among, 2, 2)]
            rows.extend([polynomial(rng, among, 1, 2) for _ in range(rng.randint(0, 2))])
            if plain or not any(map(has_twice, rows)):
                return names, rows


def special_formula(rng):
    """One of the last light formulas of point 56."""
    a = less(letter("x", 1), number((rng.randint(-9, 9), 1)))
    b = less(letter("y", 1), polynomial(rng, [("x", 0)], 2, 2))
    c = ("zero", polynomial(rng, letters("xy", [0, 1]), 1, 3))
    both = ("and", ("zero", a), ("zero", b))
    u, v = rng.choice([("x", "y"), ("y", "x")])
    kind = rng.randint(0, 2)
    if kind == 0:
        return ("all", u, ("all", v, ("or", ("not", both), c)))
    return ("some", u, ("some", v, ("and", both, ("not", c)) if kind == 1 else both))


def formula(rng):
    """A light formula."""
    if rng.random() < 0.15:
        return special_formula(rng)
    names, rows = formula_parts(rng)
    found = [("zero", p) if rng.random() < 0.6 else ("not", ("zero", p)) for p in rows]
    while len(found) > 1:
        found.append((rng.choice(["and", "or"]), found.pop(), found.pop()))
    whole = found[0]
    for _ in range(rng.randint(0, 2)):
        whole = (rng.choice(["some", "all"]), rng.choice(names), whole)
        if rng.random() < 0.2:
            whole = ("not", whole)
    return whole


def other_words(f):
    """A formula that says the same with "not", "and", "or", "some" and "all" exchanged."""
    word = f[0]
    if word == "zero":
        return f
    if word == "not":
        return ("not", other_words(f[1]))
    if word in ("some", "all"):
        return ("not", ("all" if word == "some" else "some", f[1], ("not", other_words(f[2]))))
    return ("not", ("or" if word == "and" else "and", ("not", other_words(f[1])), ("not", other_words(f[2]))))
