"""A second judge of trees, written from the words of points 27 and 28 alone, with sums as dicts of Fractions."""

from fractions import Fraction
from math import gcd


class Wrong(Exception):
    """The tree is not right."""


def ask(condition):
    if not condition:
        raise Wrong()


def whole(value):
    return isinstance(value, int) and not isinstance(value, bool)


def place(value, row):
    ask(whole(value) and 0 <= value < len(row))
    return row[value]


def pieces(value, count=None):
    ask(isinstance(value, tuple) and (count is None or len(value) == count))
    return value


def polynomial(value):
    """The dict of a polynomial; Wrong if it is none."""
    found = {}
    for pair in pieces(value):
        monomial, f = pieces(pair, 2)
        n, d = pieces(f, 2)
        ask(whole(n) and whole(d) and n != 0 and d > 0 and gcd(n, d) == 1)
        letters = []
        for inner in pieces(monomial):
            v, e = pieces(inner, 2)
            name, k = pieces(v, 2)
            ask(isinstance(name, str) and 0 < len(name) < 9 and whole(k) and k >= 0 and whole(e) and e > 0)
            ask(name[0] in "abcdefghijklmnopqrstuvwxyz")
            ask(all(sign in "abcdefghijklmnopqrstuvwxyz0123456789" for sign in name))
            letters.append(v)
        ask(all(letters[k] < letters[k + 1] for k in range(len(letters) - 1)))
        found[monomial] = Fraction(n, d)
    ask([pair[0] for pair in value] == sorted(found))
    return found


def back(p):
    """The tuple of a dict."""
    return tuple(sorted((m, (c.numerator, c.denominator)) for m, c in p.items()))


def cleaned(p):
    return {m: c for m, c in p.items() if c}


def product(p, q):
    found = {}
    for m, c in p.items():
        for n, d in q.items():
            exponents = dict(m)
            for v, e in n:
                exponents[v] = exponents.get(v, 0) + e
            key = tuple(sorted(exponents.items()))
            found[key] = found.get(key, 0) + c * d
    return cleaned(found)


def summed(p, q):
    found = dict(p)
    for m, c in q.items():
        found[m] = found.get(m, 0) + c
    return cleaned(found)


def to_power(p, e):
    found = {(): Fraction(1)}
    for _ in range(e):
        found = product(found, p)
    return found


def rate(p):
    found = {}
    for m, c in p.items():
        for (name, k), e in m:
            exponents = dict(m)
            exponents[(name, k)] = e - 1
            exponents[(name, k + 1)] = exponents.get((name, k + 1), 0) + 1
            key = tuple(sorted((v, n) for v, n in exponents.items() if n))
            found[key] = found.get(key, 0) + c * e
    return cleaned(found)


def alike(p, q):
    if set(p) != set(q):
        return False
    return len({p[m] / q[m] for m in p}) <= 1


class Judge:
    def __init__(self, system, goal, tree):
        self.system, self.goal, self.tree, self.work = system, goal, tree, 0

    def spend(self, work):
        self.work += work
        ask(self.work <= 3000000)

    def powers(self, value, row):
        """The work and, when it is asked, the product of a power row."""
        last, work = -1, 1
        for pair in pieces(value):
            j, e = pieces(pair, 2)
            p = place(j, row)
            ask(whole(e) and 1 <= e <= 60 and j > last)
            last = j
            work *= len(p) ** e
        return work

    def multiplied(self, value, row):
        found = {(): Fraction(1)}
        for j, e in value:
            found = product(found, to_power(row[j], e))
        return found

    def rows(self, value, row):
        ask(len(pieces(value)) <= 60)
        work = 0
        for pair in value:
            i, m = pieces(pair, 2)
            work += len(place(i, row)) * len(polynomial(m))
        return work

    def added(self, value, row):
        found = {}
        for i, m in value:
            found = summed(found, product(polynomial(m), row[i]))
        return found

    def step(self, step, E, N):
        ask(len(pieces(step)) > 0)
        word = step[0]
        if word == "rate":
            _, i = pieces(step, 2)
            p = place(i, E)
            self.spend(sum(len(m) for m in p))
            E.append(rate(p))
        elif word == "sum":
            _, rows = pieces(step, 2)
            self.spend(self.rows(rows, E))
            E.append(self.added(rows, E))
        elif word == "cancel":
            _, i, g, powers = pieces(step, 4)
            p, g = place(i, E), polynomial(g)
            self.spend(self.powers(powers, N) * len(g))
            ask(alike(p, product(g, self.multiplied(powers, N))))
            E.append(g)
        elif word == "root":
            _, i, g, k = pieces(step, 4)
            p, g = place(i, E), polynomial(g)
            ask(whole(k) and 2 <= k <= 60)
            self.spend(len(g) ** k)
            ask(alike(p, to_power(g, k)))
            E.append(g)
        elif word == "nonzero":
            _, powers, rows = pieces(step, 3)
            self.spend(self.powers(powers, N) + self.rows(rows, E))
            N.append(summed(self.multiplied(powers, N), self.added(rows, E)))
        elif word == "divisor":
            _, powers, g, h = pieces(step, 4)
            g, h = polynomial(g), polynomial(h)
            self.spend(self.powers(powers, N) + len(g) * len(h))
            ask(alike(self.multiplied(powers, N), product(g, h)))
            N.append(g)
        else:
            raise Wrong()

    def end(self, end, number, E, N, givens, waiting, leaves):
        ask(len(pieces(end)) > 0)
        word = end[0]
        if word == "split":
            _, h, j, k = pieces(end, 4)
            p = polynomial(h)
            for child in (j, k):
                ask(whole(child) and number < child < len(self.tree) and child not in waiting)
            ask(j != k)
            waiting[j] = (E + [p], N, (givens[0] + (h,), givens[1]))
            waiting[k] = (E, N + [p], (givens[0], givens[1] + (h,)))
        elif word == "contradiction":
            _, i, powers = pieces(end, 3)
            p = place(i, E)
            self.spend(self.powers(powers, N))
            ask(alike(p, self.multiplied(powers, N)))
        elif word == "goal":
            _, i, k, powers = pieces(end, 4)
            ask(self.goal is not None and whole(k) and 1 <= k <= 60)
            p, f = place(i, E), polynomial(self.goal)
            self.spend(self.powers(powers, N) * len(f) ** k)
            ask(alike(p, product(to_power(f, k), self.multiplied(powers, N))))
        elif word == "case":
            _, first, second = pieces(end, 3)
            found = []
            for row, places in ((E, first), (N, second)):
                found.append(tuple(back(place(at, row)) for at in pieces(places)))
                ask(len(set(places)) == len(places))
            leaves.append((number, givens, tuple(found)))
        else:
            raise Wrong()

    def run(self):
        ask(len(pieces(self.tree)) > 0)
        first, second = self.system
        waiting = {0: ([polynomial(p) for p in first], [polynomial(q) for q in second], (first, second))}
        leaves = []
        for number, node in enumerate(self.tree):
            ask(number in waiting)
            E, N, givens = waiting[number]
            E, N = list(E), list(N)
            steps, end = pieces(node, 2)
            for step in pieces(steps):
                self.step(step, E, N)
            self.end(end, number, E, N, givens, waiting, leaves)
        ask(len(waiting) == len(self.tree))
        return tuple(leaves)


def judge(system, goal, tree):
    """What judged should return."""
    try:
        return Judge(system, goal, tree).run()
    except (Wrong, TypeError):
        return None
