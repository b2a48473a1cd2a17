"""Points 79, 80, 82 as the heading ratesay/laws_of.py names them: all laws of told functions to a degree."""

import unittest
from fractions import Fraction

from ratesay.errors import BadExplicit, BadNumber, BadStart
from ratesay.laws_of import is_laws_paper, laws_paper, laws_to
from ratesay.polynomials import UNIT, less, scaled
from ratesay.texts import read
from ratesay.timed import coefficients_of, decide_zero, is_closed
from tests.helpers import ANYTHING, polys, rng_of
from tests.test_timed import CIRCLE, CLOCK, NO_STARTS, NO_SYSTEMS, RISE, SINE, explicit, light, start

CURVE = (explicit(x="1", y="2*x", z="3*y"), start(0, 0, 0))
POWERS = (explicit(a="a", b="2*b"), start(1, 1))
KNOWN = [
    (SINE, 1, ()),
    (SINE, 2, ("x^2 + y^2 - 1",)),
    (SINE, 3, ("x^3 + x*y^2 - x", "x^2*y + y^3 - y", "x^2 + y^2 - 1")),
    (RISE, 3, ()),
    ((CLOCK, start(5)), 4, ()),
    ((explicit(x="0"), start("2/3")), 1, ("x - 2/3",)),
    ((explicit(x="0"), start("2/3")), 2, ("x^2 - 4/9", "x - 2/3")),
    (POWERS, 1, ()),
    (POWERS, 2, ("a^2 - b",)),
    (POWERS, 3, ("a^2*b - b^2", "a^3 - a*b", "a^2 - b")),
    (CURVE, 1, ()),
    (CURVE, 2, ("x*y - z", "x*z - y^2", "x^2 - y")),
    ((explicit(x="x^2"), start(0)), 1, ("x",)),
    ((explicit(x="x^2"), start(1)), 4, ()),
    ((explicit(x="y", y="-x"), start(0, 0)), 1, ("x", "y")),
    ((explicit(x="y", y="z", z="x"), start(1, 1, 1)), 1, ("x - z", "y - z")),
    ((explicit(x="x", y="y", z="z"), start(1, 2, "1/3")), 1, ("x - 3*z", "y - 6*z")),
]


def order_key(monomial):
    """Where a monomial stands in the order of [82]."""
    return (-sum(e for _, e in monomial), monomial)


def known_base(T, d, top):
    """The base of the polynomials of degree at most d whose coefficients to t^top are 0, by plain elimination."""
    letters = [(name, 0) for name, _ in T[0]]
    monomials = {()}
    for _ in range(d):
        monomials |= {tuple(sorted((dict(m) | {v: dict(m).get(v, 0) + 1}).items())) for m in monomials for v in letters}
    monomials = sorted(monomials, key=order_key)
    columns = [[Fraction(*f) for f in coefficients_of(T, ((m, (1, 1)),), top)] for m in monomials]
    # The last monomials are solved for first, so the leads are what is left.
    rows = [[column[k] for column in columns[::-1]] for k in range(top + 1)]
    pivots, at = [], 0
    for column in range(len(monomials)):
        found = [k for k in range(at, len(rows)) if rows[k][column]]
        if not found:
            continue
        rows[at], rows[found[0]] = rows[found[0]], rows[at]
        rows[at] = [n / rows[at][column] for n in rows[at]]
        for k in range(len(rows)):
            if k != at and rows[k][column]:
                rows[k] = [a - rows[k][column] * b for a, b in zip(rows[k], rows[at])]
        pivots.append(column)
        at += 1
    base = []
    for column in range(len(monomials)):
        if column not in pivots:
            table = {monomials[::-1][column]: Fraction(1)}
            for k, pivot in enumerate(pivots):
                if rows[k][column]:
                    table[monomials[::-1][pivot]] = -rows[k][column]
            base.append((order_key(monomials[::-1][column]), table))
    return tuple(tuple(sorted((m, (n.numerator, n.denominator)) for m, n in table.items())) for _, table in sorted(base, key=lambda r: r[0]))


class LawsTest(unittest.TestCase):
    def check(self, T, d):
        base = laws_to(T, d)
        paper = laws_paper(T, d)
        self.assertEqual(paper[:2], ("laws", base))
        self.assertIs(is_laws_paper(T, d, paper), True)
        self.assertLessEqual(paper[3], 60)
        if base:
            self.assertIs(is_closed(T, paper[2]), True)
        else:
            self.assertIsNone(paper[2])
        return base

    def test_known_laws(self):
        for T, d, texts in KNOWN:
            self.assertEqual(self.check(T, d), polys(*texts), (T, d))

    def test_degree_four(self):
        base = self.check(SINE, 4)
        self.assertEqual(len(base), 6)
        self.assertIn(read("x^2 + y^2 - 1"), base)
        for p in base:
            self.assertEqual(decide_zero(SINE, p)[0], "zero")

    def test_light_kinds(self):
        rng = rng_of(5)
        for at in range(60):
            T, _ = light(rng)
            d = rng.randint(1, 2)
            self.assertEqual(self.check(T, d), known_base(T, d, 20))
        for at in range(10):
            T, _ = light(rng, rng.randint(1, 2))
            if max([sum(e for _, e in m) for _, p in T[0] for m, _ in p], default=0) <= 1:
                self.assertEqual(self.check(T, 3), known_base(T, 3, 22))

    def test_wrong_papers(self):
        right = laws_paper(SINE, 2)
        word, base, triple, top = right
        law = base[0]
        wrong = [*ANYTHING, right[:3], (*right, 0), list(right), ("law", *right[1:]), (word, list(base), triple, top),
                 (word, base, None, top), (word, (), triple, top), (word, (), None, top), (word, base, triple, 61),
                 (word, base, triple, True), (word, base, triple, -1), (word, base, triple, None), (word, base, triple, 2),
                 (word, (scaled(law, (2, 1)),), triple, top), (word, (less(law, UNIT),), triple, top),
                 (word, (*base, read("x")), triple, top), (word, (*base, ()), triple, top), (word, base * 2, triple, top),
                 (word, base, (triple[0], (), triple[2]), top), (word, base, (polys("0"), UNIT, (polys("0"),)), top),
                 (word, base, list(triple), top), (word, (read("x^3 + x*y^2 - x"),), triple, top), (word, None, triple, top)]
        for paper in wrong:
            self.assertIs(is_laws_paper(SINE, 2, paper), False, paper)
        self.assertIs(is_laws_paper(SINE, 1, right), False)
        self.assertIs(is_laws_paper(SINE, 3, right), False)
        self.assertIs(is_laws_paper(SINE, 2, (word, base, triple, 60)), True)
        # 0 may be put to the closed list, or another member of it.
        members, d, rows = triple
        more = ((*members, ()), d, (*[(*row, UNIT) for row in rows], tuple(() for _ in range(len(members) + 1))))
        self.assertIs(is_laws_paper(SINE, 2, (word, base, more, top)), True)
        none = laws_paper(SINE, 1)
        self.assertIs(is_laws_paper(SINE, 1, ("laws", (), None, 60)), True)
        self.assertIs(is_laws_paper(SINE, 1, ("laws", (), (polys("0"), UNIT, (polys("0"),)), none[3])), False)
        self.assertIs(is_laws_paper(SINE, 1, ("laws", (), None, 1)), False)

    def test_order_of_the_base(self):
        word, base, triple, top = laws_paper(CURVE, 2)
        self.assertIs(is_laws_paper(CURVE, 2, (word, base[::-1], triple, top)), False)
        self.assertIs(is_laws_paper(CURVE, 2, (word, base[:2], triple, top)), False)
        bent = (base[0], less(base[1], base[2]), base[2])
        self.assertIs(is_laws_paper(CURVE, 2, (word, bent, triple, top)), False)

    def test_errors(self):
        for call, rest in ((laws_to, ()), (laws_paper, ()), (is_laws_paper, (None,))):
            for g in NO_SYSTEMS:
                self.assertRaises(BadExplicit, call, (g, None), 0, *rest)
            for T in [*ANYTHING, (CIRCLE,)]:
                self.assertRaises(BadExplicit, call, T, 0, *rest)
            for c in NO_STARTS:
                self.assertRaises(BadStart, call, (CIRCLE, c), 0, *rest)
            for d in (0, 5, -1, True, None, "1", (1, 1)):
                with self.assertRaises(BadNumber) as caught:
                    call(SINE, d, *rest)
                self.assertEqual(caught.exception.number, d)


if __name__ == "__main__":
    unittest.main()
