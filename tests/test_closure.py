"""Points 77 and 78 as the heading ratesay/closure.py names them: told systems made of others."""

import unittest
from fractions import Fraction
from math import comb

from ratesay.closure import joined, put_in, renamed, turned, with_equation, with_integral, with_quotient, with_root
from ratesay.errors import BadExplicit, BadFraction, BadName, BadNumber, BadPairs, BadPolynomial, BadStart, Clash, NoFunction
from ratesay.polynomials import UNIT, letter, times
from ratesay.texts import read
from ratesay.timed import coefficients_of, decide_zero, is_same, is_told
from tests.helpers import ANYTHING, NO_POLYNOMIALS
from tests.test_timed import CIRCLE, CLOCK, NO_STARTS, NO_SYSTEMS, RISE, SINE, explicit, start

NO_NAMES = ["", "X", "1a", "abcdefghi", None, 1, ("x",), "x'", "é"]
NO_FRACTIONS = [None, 1, "1", (1,), (1, 0), (2, 2), (1, -1), [1, 1], (True, 1), (1, True), (1, 1, 1)]
CLOCKED = (CLOCK, start(0))


def series(T, name, n=8):
    """The coefficients of a function, as Fractions."""
    return [Fraction(*f) for f in coefficients_of(T, letter(name, 0), n)]


def product(a, b):
    """The product of two series."""
    return [sum(a[i] * b[k - i] for i in range(k + 1)) for k in range(min(len(a), len(b)))]


def composed(a, b):
    """The series a with b, which begins with 0, in the place of t."""
    found = [Fraction(0)] * len(a)
    for n in a[::-1]:
        found = product(found, b)
        found[0] += n
    return found


class ClosureTest(unittest.TestCase):
    def raises(self, error, call, *arguments, **fields):
        with self.assertRaises(error) as caught:
            call(*arguments)
        for name, worth in fields.items():
            self.assertEqual(getattr(caught.exception, name), worth)

    def bad_told(self, call, *rest):
        for T in [*ANYTHING, (CIRCLE,), (*SINE, ()), list(SINE)]:
            self.raises(BadExplicit, call, T, *rest)
        for g in NO_SYSTEMS:
            self.raises(BadExplicit, call, (g, start(0, 1)), *rest)
        for c in NO_STARTS:
            self.raises(BadStart, call, (CIRCLE, c), *rest)

    def bad_polynomials(self, call, before, *rest):
        for p in [*NO_POLYNOMIALS, read("w"), read("x'")]:
            self.raises(BadPolynomial, call, *before, p, *rest)

    def bad_names(self, call, before, *rest):
        for name in NO_NAMES:
            self.raises(BadName, call, *before, name, *rest, name=name)


class JoinedTest(ClosureTest):
    def test_joined(self):
        both = joined(SINE, (explicit(e="e", b="e*b"), start(1, 2)))
        self.assertEqual(both, (explicit(b="e*b", e="e", x="y", y="-x"), start(1, 2, 0, 1)))
        self.assertEqual(both, joined((explicit(e="e", b="e*b"), start(1, 2)), SINE))
        self.assertIs(is_told(both), True)

    def test_errors(self):
        self.bad_told(joined, None)
        for T in (None, (), (CIRCLE,)):
            self.raises(BadExplicit, joined, SINE, T)
        self.raises(BadStart, joined, SINE, (CIRCLE, None))
        self.raises(Clash, joined, SINE, SINE, name="x")
        self.raises(Clash, joined, SINE, (explicit(y="0", a="0"), start(0, 0)), name="y")

    def test_renamed(self):
        self.assertEqual(renamed(SINE, (("x", "b"), ("y", "a"))), (explicit(a="-b", b="a"), start(1, 0)))
        self.assertEqual(renamed(SINE, (("x", "y"), ("y", "x"))), (explicit(x="-y", y="x"), start(1, 0)))
        self.assertEqual(renamed(SINE, ()), SINE)
        self.assertEqual(renamed(SINE, (("x", "x"),)), SINE)
        self.assertEqual(renamed(SINE, (("y", "c"),)), (explicit(c="-x", x="c"), start(1, 0)))

    def test_renamed_errors(self):
        self.bad_told(renamed, None)
        for pairs in [None, 1, "x", [], [("x", "z")], (("x", "z"), ("x", "w")), (("z", "w"),), (("x",),), (("x", "X"),), (["x", "z"],),
                      (("x", 1),), (("x", "z", "w"),), ((1, "z"),), ((("x", 0), "z"),), (("x", "y"), ("y", ""))]:
            self.raises(BadPairs, renamed, SINE, pairs)
        self.raises(Clash, renamed, SINE, (("x", "y"),), name="y")
        self.raises(Clash, renamed, SINE, (("x", "a"), ("y", "a")), name="a")
        four = (explicit(a="0", b="0", c="0", d="0"), start(0, 0, 0, 0))
        self.raises(Clash, renamed, four, (("a", "d"), ("b", "c")), name="c")


class NewFunctionTest(ClosureTest):
    def test_integral(self):
        T = with_integral(SINE, "s", read("x*y"), (1, 2))
        self.assertEqual(T, (explicit(s="x*y", x="y", y="-x"), start("1/2", 0, 1)))
        self.assertIs(is_same(T, read("s"), read("1/2 + 1/2*x^2")), True)
        self.assertEqual(with_integral(SINE, "a", (), (0, 1)), (explicit(a="0", x="y", y="-x"), start(0, 0, 1)))

    def test_integral_errors(self):
        self.bad_told(with_integral, None, None, None)
        self.bad_names(with_integral, (SINE,), None, None)
        self.bad_polynomials(with_integral, (SINE, "x"), None)
        self.raises(BadPolynomial, with_integral, SINE, "s", read("s"), (0, 1))
        for a in NO_FRACTIONS:
            self.raises(BadFraction, with_integral, SINE, "x", UNIT, a)
        self.raises(Clash, with_integral, SINE, "x", UNIT, (0, 1), name="x")

    def test_quotient(self):
        T = with_quotient(SINE, "a", read("x + 2*y"))
        self.assertEqual(T, (explicit(a="-a^2*y + 2*a^2*x", x="y", y="-x"), start("1/2", 0, 1)))
        self.assertIs(is_same(T, read("a*(x + 2*y)"), UNIT), True)
        self.assertEqual(product(series(T, "a"), [Fraction(*f) for f in coefficients_of(T, read("x + 2*y"), 8)])[:3], [1, 0, 0])

    def test_quotient_errors(self):
        self.bad_told(with_quotient, None, None)
        self.bad_names(with_quotient, (SINE,), None)
        self.bad_polynomials(with_quotient, (SINE, "x"))
        self.raises(Clash, with_quotient, SINE, "y", read("x"), name="y")
        self.raises(NoFunction, with_quotient, SINE, "z", read("x"), what="quotient")
        self.raises(NoFunction, with_quotient, SINE, "z", (), what="quotient")


class PutInTest(ClosureTest):
    def test_put_in(self):
        T = put_in(SINE, read("x^2 + y - 1"), RISE)
        self.assertEqual(T, (explicit(e="2*e*x*y - e*x", x="y", y="-x"), start(1, 0, 1)))
        inner = [Fraction(*f) for f in coefficients_of(SINE, read("x^2 + y - 1"), 8)]
        self.assertEqual(series(T, "e"), composed(series(RISE, "e"), inner))
        self.assertEqual(put_in(SINE, (), RISE), (explicit(e="0", x="y", y="-x"), start(1, 0, 1)))

    def test_put_in_errors(self):
        self.bad_told(put_in, None, None)
        self.bad_polynomials(put_in, (SINE,), None)
        self.raises(BadExplicit, put_in, SINE, read("y"), None)
        self.raises(BadStart, put_in, SINE, read("y"), (CIRCLE, None))
        self.raises(Clash, put_in, SINE, read("y"), (explicit(y="0", z="0"), start(1, 1)), name="y")
        self.raises(NoFunction, put_in, SINE, read("y"), RISE, what="put in")

    def test_turned(self):
        T = turned(RISE, read("e - 1"), "z", "w")
        self.assertEqual(T, (explicit(e="e*z", w="z", z="-z^3*e"), start(1, 0, 1)))
        self.assertIs(is_same(T, read("e*z"), UNIT), True)
        self.assertEqual(series(T, "e", 4), [1, 1, 0, 0, 0])
        self.assertEqual(series(T, "w", 4), [0, 1, Fraction(-1, 2), Fraction(1, 3), Fraction(-1, 4)])
        T = turned(SINE, read("2*x + x*y - x^2"), "b", "a")
        self.assertEqual(composed(series(SINE, "y"), series(T, "a")), series(T, "y"))
        self.assertEqual([Fraction(*f) for f in coefficients_of(T, read("2*x + x*y - x^2"), 5)], [0, 1, 0, 0, 0, 0])
        self.assertIs(is_same(T, times(read("b"), read("2*y + y^2 - x^2 - 2*x*y")), UNIT), True)

    def test_turned_errors(self):
        self.bad_told(turned, None, None, None)
        self.bad_polynomials(turned, (SINE,), None, None)
        self.bad_names(turned, (SINE, read("y")), "x")
        self.bad_names(turned, (SINE, read("y"), "x"))
        self.raises(Clash, turned, SINE, read("y"), "z", "z", name="z")
        self.raises(Clash, turned, SINE, read("y"), "z", "y", name="y")
        self.raises(Clash, turned, SINE, read("y"), "x", "y", name="x")
        self.raises(NoFunction, turned, SINE, read("y"), "z", "w", what="turned")
        self.raises(NoFunction, turned, SINE, read("x^2"), "z", "w", what="turned")
        self.raises(NoFunction, turned, SINE, (), "z", "w", what="turned")


class RootTest(ClosureTest):
    def test_root(self):
        T = with_root(CLOCKED, "r", "v", 2, read("4 + 4*x"), (-2, 1))
        self.assertEqual(T, (explicit(r="2*v", v="-2*v^3", x="1"), start(-2, "-1/2", 0)))
        self.assertIs(is_same(T, read("r^2"), read("4 + 4*x")), True)
        self.assertIs(is_same(T, read("r*v"), UNIT), True)
        for m in range(2, 7):
            T = with_root(CLOCKED, "r", "v", m, read("(1 + x)^2"), (1, 1))
            self.assertIs(is_same(T, read(f"r^{m}"), read("(1 + x)^2")), True)
        T = with_root(SINE, "a", "b", 3, read("8*y^2 - 16*y"), (-2, 1))
        self.assertEqual(dict(T[0])["a"], read("-16/3*b^2*x*y + 16/3*b^2*x"))
        self.assertEqual(dict(T[0])["b"], read("16/3*b^4*x*y - 16/3*b^4*x"))

    def test_root_errors(self):
        self.bad_told(with_root, None, None, None, None, None)
        self.bad_names(with_root, (SINE,), None, None, None, None)
        self.bad_names(with_root, (SINE, "x"), None, None, None)
        for m in (1, 7, 0, -2, True, None, "2", (2, 1)):
            self.raises(BadNumber, with_root, SINE, "x", "x", m, None, None, number=m)
        self.bad_polynomials(with_root, (SINE, "x", "x", 2), None)
        for a in NO_FRACTIONS:
            self.raises(BadFraction, with_root, SINE, "x", "x", 2, UNIT, a)
        self.raises(Clash, with_root, SINE, "x", "y", 2, UNIT, (2, 1), name="x")
        self.raises(Clash, with_root, SINE, "r", "y", 2, UNIT, (2, 1), name="y")
        self.raises(Clash, with_root, SINE, "r", "r", 2, UNIT, (2, 1), name="r")
        for f, a in (("y", (2, 1)), ("x", (0, 1)), ("4*y", (4, 1)), ("4*y", (1, 2)), ("-y", (1, 1))):
            self.raises(NoFunction, with_root, SINE, "r", "v", 2, read(f), a, what="root")


class EquationTest(ClosureTest):
    def test_equation(self):
        # w ^ 2 = 1 + t.
        T = with_equation(CLOCKED, "w", "z", read("w^2 - 1 - x"), (1, 1))
        self.assertEqual(T, (explicit(w="z", x="1", z="-2*z^3"), start(1, 0, "1/2")))
        half = [Fraction(1)]
        for k in range(8):
            half.append(half[-1] * (Fraction(1, 2) - k) / (k + 1))
        self.assertEqual(series(T, "w"), half)
        T = with_equation(SINE, "a", "b", read("x*a^3 + a*y + a^2 - 2*y"), (1, 1))
        self.assertEqual(decide_zero(T, read("x*a^3 + a*y + a^2 - 2*y"))[0], "zero")
        self.assertIs(is_same(T, read("b*(3*x*a^2 + y + 2*a)"), UNIT), True)
        slope = read("-(a^3*y - a*x + 2*x)*b")
        self.assertEqual(dict(T[0])["a"], slope)
        turn = read("3*a^2*y - x")
        found = times(read("-b^2"), read("3*a^2*y - x - (6*x*a + 2)*(a^3*y - a*x + 2*x)*b"))
        self.assertEqual(dict(T[0])["b"], found)
        self.assertTrue(turn)

    def test_catalan(self):
        # t w ^ 2 - w + 1 = 0.
        T = with_equation(CLOCKED, "w", "z", read("x*w^2 - w + 1"), (1, 1))
        self.assertEqual(series(T, "w"), [Fraction(comb(2 * k, k), k + 1) for k in range(9)])

    def test_equation_errors(self):
        self.bad_told(with_equation, None, None, None, None)
        self.bad_names(with_equation, (SINE,), None, None, None)
        self.bad_names(with_equation, (SINE, "x"), None, None)
        for p in [*NO_POLYNOMIALS, read("z"), read("w'"), read("w + x'"), read("w[3]")]:
            self.raises(BadPolynomial, with_equation, SINE, "w", "z", p, None)
            self.raises(BadPolynomial, with_equation, SINE, "x", "x", p, None)
        for b in NO_FRACTIONS:
            self.raises(BadFraction, with_equation, SINE, "x", "x", UNIT, b)
        self.raises(Clash, with_equation, SINE, "x", "x", UNIT, (0, 1), name="x")
        self.raises(Clash, with_equation, SINE, "w", "w", UNIT, (0, 1), name="w")
        self.raises(Clash, with_equation, SINE, "w", "y", UNIT, (0, 1), name="y")
        for p, b in (("w - x", (1, 1)), ("w^2 - x", (0, 1)), ("x", (0, 1)), ("0", (0, 1)), ("(w - 1)^2", (1, 1))):
            self.raises(NoFunction, with_equation, SINE, "w", "z", read(p), b, what="equation")


if __name__ == "__main__":
    unittest.main()
