"""Points 72 to 76 as the heading ratesay/timed.py names them: told functions, closed lists, zero, safe starts."""

import unittest
from fractions import Fraction
from math import factorial

from ratesay.errors import BadExplicit, BadNumber, BadPolynomial, BadStart, TooMany
from ratesay.polynomials import UNIT, number, partial, plus, power, scaled, times
from ratesay.texts import read
from ratesay.timed import (
    coefficients_of, decide_zero, is_closed, is_explicit, is_same, is_safe_paper, is_told, is_zero_paper, multipliers,
    order_of, rate_along, rates_along, safe_starts,
)
from tests.helpers import ANYTHING, NO_POLYNOMIALS, fraction, polys, random_polynomial, rng_of, value


def explicit(**rows):
    """An explicit system: the texts of the rates of its names."""
    return tuple(sorted((name, read(text)) for name, text in rows.items()))


def start(*numbers):
    """A start of numbers."""
    return tuple(fraction(Fraction(n).numerator, Fraction(n).denominator) for n in numbers)


CIRCLE = explicit(x="y", y="-x")
SINE = (CIRCLE, start(0, 1))
CLOCK = explicit(x="1")
RISE = (explicit(e="e"), start(1))
THREE = explicit(a="b", b="c", c="a - b")
NO_SYSTEMS = [
    *ANYTHING, list(CIRCLE), CIRCLE[::-1], (CIRCLE[0], CIRCLE[0]), CIRCLE[:1], (list(CIRCLE[0]), CIRCLE[1]),
    (("X", ()),), ((1, ()),), (("x",),), (("x", (), ()),), (("x", None),), (("x", read("x'")),), (("x", read("z")),),
    (("x", read("x[2]")),), (("x", [()]),), ((("x", 0), ()),),
]
NO_STARTS = [*[v for v in ANYTHING], start(0), start(0, 1, 2), [(0, 1), (1, 1)], ((0, 1), (2, 2)), ((0, 1), (1, 0)),
             ((0, 1), (True, 1)), ((0, 1), [1, 1]), ((0, 1), 1)]


def slow_rate(g, f):
    """L f, told otherwise."""
    found = ()
    for name, p in g:
        found = plus(found, times(p, partial(f, (name, 0))))
    return found


def slow_coefficients(T, f, n):
    """The coefficients of f(t), by rates along."""
    found = []
    point = {(name, 0): Fraction(*c) for (name, _), c in zip(*T)}
    for k in range(n + 1):
        worth = value(f, point) / factorial(k)
        found.append((worth.numerator, worth.denominator))
        f = slow_rate(T[0], f)
    return tuple(found)


def light(rng, many=None):
    """A light told system, and a light polynomial of it."""
    many = many or rng.randint(1, 3)
    names = ["x", "y", "z"][:many]
    among = [(name, 0) for name in names]
    high = 2 if many < 3 else 1
    g = tuple((name, random_polynomial(rng, among, high, rng.randint(0, 4), 9, True)) for name in names)
    c = tuple((rng.randint(-9, 9), 1) if rng.random() < 0.7 else (0, 1) for _ in names)
    return (g, c), random_polynomial(rng, among, 2, rng.randint(0, 4), 9, True)


class FormTest(unittest.TestCase):
    def test_is_explicit(self):
        six = tuple((f"n{k}", ()) for k in range(6))
        for g in (CIRCLE, CLOCK, THREE, (("x", ()),), six, tuple((f"n{k}", ()) for k in range(9))):
            self.assertIs(is_explicit(g), True)
        for g in NO_SYSTEMS:
            self.assertIs(is_explicit(g), False, g)
        for p in NO_POLYNOMIALS:
            self.assertIs(is_explicit((("x", p),)), False, p)

    def test_is_told(self):
        for T in (SINE, RISE, (CIRCLE, start("1/2", "-3/4")), (tuple((f"n{k}", ()) for k in range(8)), start(*range(8)))):
            self.assertIs(is_told(T), True)
        for T in [*ANYTHING, list(SINE), (*SINE, ()), SINE[::-1], (CIRCLE,)]:
            self.assertIs(is_told(T), False, T)
        for g in NO_SYSTEMS:
            self.assertIs(is_told((g, start(0, 1))), False, g)
        for c in NO_STARTS:
            self.assertIs(is_told((CIRCLE, c)), False, c)


class RateTest(unittest.TestCase):
    def test_rate_along(self):
        self.assertEqual(rate_along(CIRCLE, read("x^2 + y^2")), ())
        self.assertEqual(rate_along(CIRCLE, read("x*y - 1/2*x + 7")), read("y^2 - x^2 - 1/2*y"))
        self.assertEqual(rate_along(CLOCK, ()), ())
        rng = rng_of(1)
        for _ in range(40):
            (g, _), f = light(rng)
            self.assertEqual(rate_along(g, f), slow_rate(g, f))
            self.assertEqual(rates_along(g, f, 3), (f, *rates_along(g, slow_rate(g, f), 2)))

    def test_counts(self):
        self.assertEqual(rates_along(CIRCLE, read("x"), 0), polys("x"))
        self.assertEqual(rates_along(CIRCLE, read("x"), 4), polys("x", "y", "-x", "-y", "x"))
        self.assertEqual(len(rates_along(CLOCK, read("x^2"), 12)), 13)
        self.assertEqual(rates_along(CLOCK, read("x^2"), 3), polys("x^2", "2*x", "2", "0"))
        for n in (13, -1, True, None, "1", (1,)):
            with self.assertRaises(BadNumber) as caught:
                rates_along(CIRCLE, read("x"), n)
            self.assertEqual(caught.exception.number, n)

    def test_coefficients(self):
        self.assertEqual(coefficients_of(SINE, read("x"), 5), ((0, 1), (1, 1), (0, 1), (-1, 6), (0, 1), (1, 120)))
        self.assertEqual(coefficients_of(RISE, read("e^2"), 3), ((1, 1), (2, 1), (2, 1), (4, 3)))
        self.assertEqual(coefficients_of(RISE, (), 2), ((0, 1), (0, 1), (0, 1)))
        self.assertEqual(len(coefficients_of(RISE, read("e"), 24)), 25)
        self.assertEqual(coefficients_of(RISE, read("e"), 24)[24], (1, factorial(24)))
        self.assertEqual(coefficients_of(RISE, read("e"), 0), ((1, 1),))
        for n in (25, -1, False, None):
            with self.assertRaises(BadNumber) as caught:
                coefficients_of(SINE, read("x"), n)
            self.assertEqual(caught.exception.number, n)
        rng = rng_of(2)
        for _ in range(25):
            T, f = light(rng)
            self.assertEqual(coefficients_of(T, f, 5), slow_coefficients(T, f, 5))

    def test_errors_in_their_order(self):
        for g in NO_SYSTEMS:
            self.assertRaises(BadExplicit, rate_along, g, None)
            self.assertRaises(BadExplicit, rates_along, g, None, 13)
            self.assertRaises(BadExplicit, coefficients_of, (g, None), None, 25)
            self.assertRaises(BadExplicit, decide_zero, (g, None), None)
            self.assertRaises(BadExplicit, safe_starts, g, None)
            self.assertRaises(BadExplicit, is_safe_paper, g, None, None)
        for T in ANYTHING:
            for call in (coefficients_of, is_zero_paper, is_same):
                self.assertRaises(BadExplicit, call, T, None, None)
            for call in (decide_zero, order_of, is_closed):
                self.assertRaises(BadExplicit, call, T, None)
        for c in NO_STARTS:
            for call in (coefficients_of, is_zero_paper, is_same):
                self.assertRaises(BadStart, call, (CIRCLE, c), None, None)
            for call in (decide_zero, order_of, is_closed):
                self.assertRaises(BadStart, call, (CIRCLE, c), None)
        for p in [*NO_POLYNOMIALS, read("z"), read("x'"), read("x*y[2]")]:
            self.assertRaises(BadPolynomial, rate_along, CIRCLE, p)
            self.assertRaises(BadPolynomial, rates_along, CIRCLE, p, 13)
            self.assertRaises(BadPolynomial, coefficients_of, SINE, p, 25)
            for call in (decide_zero, order_of):
                self.assertRaises(BadPolynomial, call, SINE, p)
            self.assertRaises(BadPolynomial, is_zero_paper, SINE, p, None)
            self.assertRaises(BadPolynomial, is_same, SINE, p, UNIT)
            self.assertRaises(BadPolynomial, is_same, SINE, UNIT, p)


CLOSED = (polys("x^2 + y^2 - 1"), UNIT, (polys("0"),))
# x = t, z = t ^ 2, told by z' = 2 x; d is no number, and there are two members.
SQUARE = (explicit(x="1", z="2*x"), start(0, 0))
DIVIDED = (polys("z - x^2", "x*z - x^3"), read("x + 1"), (polys("0", "0"), polys("x + 1", "0")))
TRIPLE = (polys("x - y", "y - z", "z - x"), UNIT, (polys("0", "1", "0"), polys("0", "0", "1"), polys("1", "0", "0")))
TURN = (explicit(x="y", y="z", z="x"), start(2, 2, 2))


class ClosedTest(unittest.TestCase):
    def test_right_lists(self):
        for T, found in ((SINE, CLOSED), (SQUARE, DIVIDED), (TURN, TRIPLE), (SINE, (((),), UNIT, (((),),)))):
            self.assertIs(is_closed(T, found), True)
        self.assertIs(is_closed(SQUARE, (polys("z - x^2"), read("x - 1"), (polys("0"),))), True)
        self.assertIs(is_closed(SQUARE, (polys("z - x^2"), read("x"), (polys("0"),))), False)
        self.assertIs(is_closed((SQUARE[0], start(0, 1)), DIVIDED), False)

    def test_each_condition_alone(self):
        members, divisor, rows = DIVIDED
        wrong = [
            *ANYTHING, list(DIVIDED), DIVIDED[:2], (*DIVIDED, 0), ((), UNIT, ()), (list(members), divisor, rows),
            (members, divisor, list(rows)), (members, divisor, rows[:1]), (members, divisor, (*rows, rows[0])),
            (members, divisor, (rows[0], rows[1][:1])), (members, divisor, (rows[0], list(rows[1]))),
            (members, divisor, rows[::-1]), (members, UNIT, rows), (members, (), rows), (members, read("z"), rows),
            (members[::-1], divisor, rows), (members[:1], divisor, rows), (members, divisor, (rows[0], polys("x", "0"))),
            (members, divisor, (rows[0], polys("x + 1", "1"))), (members, divisor, (polys("1", "0"), rows[1])),
            (polys("z - x^2", "x*z"), divisor, rows), (polys("z - x^2 - 1", "x*z - x^3 - x"), divisor, rows),
            (members, read("x' + 1"), rows), (members, read("w"), rows), (polys("z - x^2", "x'"), divisor, rows),
            (members, divisor, (rows[0], polys("x + 1", "w"))), (members, None, rows),
        ]
        for found in wrong:
            self.assertIs(is_closed(SQUARE, found), False, found)
        # F_i' is a sum of multiples, but F_i(c) is not 0.
        self.assertIs(is_closed(RISE, (polys("e"), UNIT, (polys("1"),))), False)
        self.assertIs(is_closed((RISE[0], start(0)), (polys("e"), UNIT, (polys("1"),))), True)
        # d(c) = 0: t' = 1, f = t has t f' = f and is not 0.
        clock = (CLOCK, start(0))
        self.assertIs(is_closed(clock, (polys("x"), read("x"), (polys("1"),))), False)

    def test_divided_rows(self):
        rows = (polys("x + 1", "-1/7*x*z"), polys("x + 1", "0"))
        self.assertIs(is_closed(SQUARE, (DIVIDED[0], DIVIDED[1], rows)), False)


class ZeroTest(unittest.TestCase):
    def paper(self, T, f, kind):
        found = decide_zero(T, f)
        self.assertEqual(found[0], kind)
        self.assertIs(is_zero_paper(T, f, found), True)
        self.assertEqual(order_of(T, f), found[1] if kind == "order" else None)
        self.assertIs(is_same(T, f, ()), kind == "zero")
        return found

    def test_known_functions(self):
        for T, f in ((SINE, "x^2 + y^2 - 1"), (SINE, "(x^2 + y^2 - 1)^2"), (SINE, "x^3 + x*y^2 - x"), (SINE, "0"),
                     (SQUARE, "z - x^2"), (SQUARE, "z^2 - x^4 + x*z - x^3"), (TURN, "x - y"), (TURN, "x*y - z^2"),
                     ((CIRCLE, start(0, 0)), "x"), ((explicit(x="x^2"), start(0)), "x^2 - 3*x"),
                     ((explicit(p="0", x="p*x"), start(3, 0)), "x*p"), ((explicit(p="0", x="p*x"), start(3, 1)), "p - 3")):
            found = self.paper(T, read(f), "zero")
            self.assertIs(is_closed(T, found[1:]), True)
            self.assertIn(read(f), found[1])
        for T, f, k in ((SINE, "x", 1), (SINE, "y", 0), (SINE, "y - 1", 2), (SINE, "x^2 + y^2", 0), ((CLOCK, start(0)), "x^2", 2),
                        (SQUARE, "z - x^2 + x^6", 6), (RISE, "e - 1", 1), (RISE, "e^2 - 2*e + 1", 2), (RISE, "1", 0)):
            self.assertEqual(self.paper(T, read(f), "order"), ("order", k))

    def test_orders_up_to_40(self):
        clock = (CLOCK, start(0))
        for k in (12, 24, 39, 40):
            self.paper(clock, power(read("x"), k), "order")
            self.assertEqual(order_of(clock, power(read("x"), k)), k)
            self.assertIs(is_zero_paper(clock, power(read("x"), k), ("order", k - 1)), False)
        for k in (41, 44):
            f = power(read("x"), k)
            self.assertRaises(TooMany, decide_zero, clock, f)
            self.assertRaises(TooMany, order_of, clock, f)
            self.assertIs(is_zero_paper(clock, f, ("order", k)), False)
            self.assertIs(is_zero_paper(clock, f, ("order", 40)), False)
            self.assertIs(is_same(clock, f, ()), False)

    def test_light_kinds(self):
        rng = rng_of(3)
        for at in range(120):
            T, f = light(rng)
            known = [k for k, n in enumerate(coefficients_of(T, f, 16)) if n[0]]
            found = self.paper(T, f, "order" if known else "zero")
            if known:
                self.assertEqual(found, ("order", known[0]))
        # Linear and quadratic functions that are planted to be 0.
        for at in range(30):
            T, f = light(rng, 2)
            g, c = T
            u, v = (read("x"), number(c[0]))
            rest = ((g[0][0], times(g[0][1], plus(u, scaled(v, (-1, 1))))), g[1])
            if degree_in(rest[0][1]) <= 2:
                self.paper((rest, c), plus(u, scaled(v, (-1, 1))), "zero")

    def test_wrong_papers(self):
        zero, order = decide_zero(SINE, CLOSED[0][0]), ("order", 1)
        for paper in [*ANYTHING, ("zero",), ("zero", None), ("zero", *CLOSED, 0), ("order",), ("order", 1, 1), ["order", 1],
                      ("order", True), ("order", None), ("order", -1), ("order", 0), ("order", 2), ("Order", 1), order[1:],
                      zero, ("order", (1,)), ("zero", CLOSED)]:
            self.assertIs(is_zero_paper(SINE, read("x"), paper), False, paper)
        self.assertIs(is_zero_paper(SINE, read("x"), order), True)
        self.assertIs(is_zero_paper(SINE, CLOSED[0][0], order), False)
        self.assertIs(is_zero_paper(SINE, CLOSED[0][0], ("zero", *CLOSED)), True)
        # f has to stand in F as it is.
        self.assertIs(is_zero_paper(SINE, scaled(CLOSED[0][0], (2, 1)), ("zero", *CLOSED)), False)
        self.assertIs(is_zero_paper(SINE, (), ("zero", ((),), UNIT, (((),),))), True)
        self.assertIs(is_zero_paper(SINE, (), ("order", 0)), False)

    def test_is_same(self):
        self.assertIs(is_same(SINE, read("x^2"), read("1 - y^2")), True)
        self.assertIs(is_same(SINE, read("x^2"), read("1 - y")), False)
        self.assertIs(is_same(SQUARE, read("z*x"), read("x^3")), True)


def degree_in(p):
    """The degree of a polynomial."""
    return max([sum(e for _, e in monomial) for monomial, _ in p], default=0)


class SafeTest(unittest.TestCase):
    def test_example(self):
        paper = (2, ((),))
        self.assertIs(is_safe_paper(CLOCK, polys("x^2"), paper), True)
        self.assertIs(is_safe_paper(CLOCK, polys("x^2"), safe_starts(CLOCK, polys("x^2"))), True)
        for wrong in ((1, ((),)), (0, ((),)), (2, ()), (2, ((), ())), [2, ((),)], (2, [()]), (2, ([],)), (True, ((),)),
                      (-1, ((),)), (13, ((),)), (2,), (2, ((),), ()), (None, ((),)), *ANYTHING):
            self.assertIs(is_safe_paper(CLOCK, polys("x^2"), wrong), False, wrong)
        for top in range(2, 13):
            self.assertIs(is_safe_paper(CLOCK, polys("x^2"), (top, ((),))), True)

    def test_rows(self):
        # L^2 x = -x, L^2 (x^2) = 2 y^2 - 2 x^2.
        g, ps = CIRCLE, polys("x", "x^2")
        right = (1, (((0, 0, read("-1")),), ((0, 0, read("-2*x")), (0, 1, read("2*y")))))
        self.assertIs(is_safe_paper(g, ps, right), True)
        row = right[1][1]
        for wrong in (row[::-1], (*row, row[1]), (row[0], row[0]), (*row, (1, 0, ())), (*row, (2, 0, UNIT)), (*row, (1, 2, UNIT)),
                      row[:1], ((0, 0, read("-2*x")), (0, 1, read("2*x"))), ((0, True, read("2*y")),), (*row, (1, 1)), list(row),
                      ((0, 0, read("-2*x")), [0, 1, read("2*y")]), ((0, 0, read("-2*x")), (0, 1, read("2*z"))), None, 0):
            self.assertIs(is_safe_paper(g, ps, (1, (right[1][0], wrong))), False, wrong)
        other = ((1, 0, UNIT), (0, 0, read("-3*x")), (0, 1, read("2*y")))
        self.assertIs(is_safe_paper(g, ps, (1, (right[1][0], tuple(sorted(other))))), True)
        self.assertIs(is_safe_paper(g, ps, (1, right[1][::-1])), False)

    def test_found_papers(self):
        for g, ps in ((CIRCLE, polys("x")), (CIRCLE, polys("x^2 + y^2 - 1", "x*y")), (CIRCLE, polys("x^3")), (THREE, polys("a")),
                      (explicit(p="0", x="p*x"), polys("x", "p - 1", "x^2")), (CIRCLE, polys("0")), (CIRCLE, polys("0", "x")),
                      (explicit(x="x^2"), polys("x")), (explicit(x="y^2", y="x"), polys("x*y")), (CLOCK, polys("3"))):
            paper = safe_starts(g, ps)
            self.assertIs(is_safe_paper(g, ps, paper), True)
            self.assertLessEqual(paper[0], 12)

    def test_bound_of_n(self):
        # L^12 of x^12 is a number, so the 13-th rate is the first that is 0.
        ps = (power(read("x"), 12),)
        self.assertIs(is_safe_paper(CLOCK, ps, (12, ((),))), True)
        ps = (power(read("x"), 13),)
        self.assertIs(is_safe_paper(CLOCK, ps, (13, ((),))), False)
        # x' = x: the paper has N = 0.
        self.assertIs(is_safe_paper(explicit(x="x"), polys("x"), (0, (((0, 0, UNIT),),))), True)

    def test_errors(self):
        own = [((),), ((), ()), ((), (), ())]
        for ps in [*[v for v in ANYTHING if v not in own], polys("x", "x", "x", "x"), list(polys("x")), polys("z"), polys("x", "x'")]:
            self.assertRaises(BadPolynomial, safe_starts, CIRCLE, ps)
            self.assertRaises(BadPolynomial, is_safe_paper, CIRCLE, ps, None)


class MultipliersTest(unittest.TestCase):
    def check(self, f, rows, n):
        found = multipliers(f, rows, n)
        self.assertEqual(len(found), len(rows))
        total = ()
        for a, p in zip(found, rows):
            self.assertLessEqual(degree_in(a), n)
            total = plus(total, times(a, p))
        self.assertEqual(total, f)

    def test_sums(self):
        self.check(read("x^2 - y^2"), polys("x - y"), 1)
        self.check(read("x^2 - y^2"), polys("x - y"), 8)
        self.check(read("x'^2*y + u[3]"), polys("x'", "u[3]"), 2)
        self.check(read("1"), polys("x", "1 - x"), 0)
        self.check((), polys("x"), 0)
        self.check((), (), 3)
        self.check((), ((),), 0)
        self.check(read("x"), ((), read("2*x"), ()), 0)
        self.assertEqual(multipliers((), (), 0), ())
        rng = rng_of(4)
        among = [("x", 0), ("y", 1)]
        for _ in range(40):
            rows = tuple(random_polynomial(rng, among, 4, rng.randint(0, 4)) for _ in range(rng.randint(1, 3)))
            total = ()
            for p in rows:
                total = plus(total, times(p, random_polynomial(rng, among, 2, rng.randint(0, 3))))
            self.check(total, rows, 2)

    def test_none(self):
        for f, rows, n in (("x^2 - y^2", ("x - y",), 0), ("x", (), 8), ("1", ("x", "y"), 8), ("1", ("0",), 2), ("y", ("x",), 3),
                           ("x", ("x^2",), 2)):
            self.assertIsNone(multipliers(read(f), polys(*rows), n))

    def test_errors(self):
        for p in NO_POLYNOMIALS:
            self.assertRaises(BadPolynomial, multipliers, p, (), 9)
            self.assertRaises(BadPolynomial, multipliers, UNIT, (UNIT, p), 9)
        for rows in [None, 1, "x", [], [UNIT], {}]:
            self.assertRaises(BadPolynomial, multipliers, UNIT, rows, 9)
        for n in (9, -1, True, None, "2"):
            with self.assertRaises(BadNumber) as caught:
                multipliers(UNIT, (UNIT,), n)
            self.assertEqual(caught.exception.number, n)


if __name__ == "__main__":
    unittest.main()
