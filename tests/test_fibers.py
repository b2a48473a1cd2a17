"""Points 67 and 68 for light models with great equations: relations that are found at fixed values, and their degrees."""

import unittest
from fractions import Fraction

from ratesay.errors import TooMany
from ratesay.fibers import Fiber, first_fiber, is_fixable, relation_by_fibers
from ratesay.generic import general_case, is_general, output_equation, values_of
from ratesay.irreducible import is_seen_irreducible, is_seen_least
from ratesay.models import rate_form, ranking_for
from ratesay.polynomials import degree, letters_of, primitive
from ratesay.relations import PointSets, Search
from ratesay.rows import Places, divided, fraction_with, product_of_points, root_of
from ratesay.samples import Sample, Setting
from ratesay.texts import read
from ratesay.finders import Finder
from tests.helpers import rng_of
from tests.test_models import told

GREAT = (
    ((told(x="-w + 2*w*x", w=("-8 - 6*w", "-6*w - 8*w*x")), (), (), told(y=("8*x", "1 + 2*w*x")), ()), 333, [19, 11, 5]),
    ((told(x="-6*w - x", w=("-9*w*x - 4*x^2", "-2*w")), (), (), told(y=("-1 - 2*w*x", "7*w + x^2")), ()), 655, [20, 13, 6]),
    ((told(x=("x", "-7 + 7*w^2"), w=("3 + 2*x", "w*x")), (), (), told(y="4*w - 9*x^2"), ()), 802, [17, 16, 7]),
    ((told(x=("-8*w^2", "9*w*x + 7*x"), w=("-8 - 8*x^2", "-5 - w")), (), (), told(y="-3*w*x"), ()), 607, [23, 16, 8]),
)
CASE = (told(x="-7 - 4*w*x", w=("4 - 5*w*x", "-2*w - 9*x")), (), (), told(y="1 - 9*w - 2*w*x"), ())
P = 2 ** 61 - 1


def fraction_at(p, table):
    """The value of a polynomial, a dict telling those of its letters."""
    total = Fraction(0)
    for monomial, (n, d) in p:
        worth = Fraction(n, d)
        for v, e in monomial:
            worth *= table[v] ** e
        total += worth
    return total


def run_table(model, own, orders):
    """The dict from the letters of the output y to their values at the run that begins at integers."""
    found = {}
    for k in range(orders + 1):
        n, d = rate_form(model, ("y", k))
        found[("y", k)] = fraction_at(n, own) / fraction_at(d, own)
    return found


class OutputEquationTest(unittest.TestCase):
    def test_great_equations(self):
        for model, pairs, tops in GREAT:
            e = output_equation(model)
            self.assertEqual(e, primitive(e)[1])
            self.assertEqual(len(e), pairs)
            self.assertEqual(letters_of(e), (("y", 0), ("y", 1), ("y", 2)))
            self.assertEqual([degree(e, ("y", k)) for k in range(3)], tops)
            self.assertIs(is_seen_irreducible(e, ("y", 2)), True)
            for x, w in ((2, 3), (-5, 7), (11, 4)):
                table = run_table(model, {("x", 0): Fraction(x), ("w", 0): Fraction(w)}, 2)
                self.assertEqual(fraction_at(e, table), 0)

    def test_great_case(self):
        ranking = (("x", "w"), ("y",))
        found = general_case(CASE, ranking)
        self.assertIs(is_general(CASE, ranking, found), True)
        for p in found[0][0]:
            for x, w in ((2, 3), (-5, 7)):
                own = {("x", 0): Fraction(x), ("w", 0): Fraction(w)}
                self.assertEqual(fraction_at(p, {**own, **run_table(CASE, own, 2)}), 0)

    def test_both_ways_tell_the_same(self):
        model = (told(x="2 - w*x", w="x^2 + 3*w"), (), (), told(y="x + w^2"), ())
        finder = Finder(model, PointSets(model), False)
        letters = [("y", 0), ("y", 1), ("y", 2)]
        plain = finder.polynomial(letters, finder.search(letters, None).next(600))
        self.assertEqual(finder.least_by_fibers(letters, None), plain)
        self.assertEqual(output_equation(model), plain)
        with_parameter = (told(x="p*x - 1", w="x + w"), ("p",), (), told(y="x*w"), ())
        finder = Finder(with_parameter, PointSets(with_parameter), False)
        letters = [("p", 0), ("y", 0), ("y", 1), ("y", 2)]
        plain = finder.polynomial(letters, finder.search(letters, None).next(600))
        for fixed in ((("p", 0),), (("y", 0),), (("p", 0), ("y", 0))):
            rest = [v for v in letters if v not in fixed]
            fiber = first_fiber(with_parameter, P, fixed)
            search = Search(fiber, rest, {v: 1 for v in rest}, {v: () for v in rest}, None)
            monomials = list(search.next(200))
            self.assertEqual(relation_by_fibers(with_parameter, letters, fixed, monomials), plain)

    def test_parameters(self):
        # Both parameters and the output are fixed, one after the other.
        model = (told(x="-3*p*q + 7*p*w - 7*x", w="6 + x"), ("p", "q"), (), told(y="3*q*w + 3*w*x"), ())
        finder = Finder(model, PointSets(model), False)
        letters = [("p", 0), ("q", 0), ("y", 0), ("y", 1), ("y", 2)]
        fixed = (("q", 0), ("p", 0), ("y", 0))
        fiber = first_fiber(model, P, fixed)
        rest = [("y", 1), ("y", 2)]
        first = Search(fiber, rest, {v: 1 for v in rest}, {v: () for v in rest}, None).next(60)
        e = relation_by_fibers(model, letters, fixed, list(first))
        self.assertEqual(e, output_equation(model))
        self.assertIs(finder.sets.checked(e), True)
        self.assertEqual(len(finder.choices_to_fix(letters[:-1])), 3)

    def test_fixed_values(self):
        model = (told(x="x + u", w="w*x"), ("p",), ("u",), told(y=("x^2 - p*w", "w + 1")), ())
        setting = Setting(model, P)
        for v in (("y", 0), ("p", 0), ("u", 0), ("u", 3)):
            self.assertIs(is_fixable(model, v), True)
        fiber = Fiber(model, setting, {("p", 0): 5, ("u", 2): 7}, (("y", 0), Sample(setting, 0, {}).worth(("y", 0))), 1)
        for k in range(6):
            self.assertEqual(fiber.worth(k, ("y", 0)), Sample(setting, 0, {}).worth(("y", 0)))
            self.assertEqual((fiber.worth(k, ("p", 0)), fiber.worth(k, ("u", 2))), (5, 14))
        self.assertEqual(len({fiber.worth(k, ("w", 0)) for k in range(6)}), 6)
        for v in (("y", 1), ("x", 0), ("z", 0)):
            self.assertIs(is_fixable(model, v), False)
        cubic = (told(x="1"), (), (), told(y="x^3"), ())
        self.assertIs(is_fixable(cubic, ("y", 0)), False)
        self.assertRaises(TooMany, Fiber, cubic, Setting(cubic, P), {}, (("y", 0), 8), 0)


class DegreeTest(unittest.TestCase):
    def test_irreducible(self):
        for text, right in (("y'^2 - 2*y", True), ("y'^2 - 4*y^2", False), ("y'^4 - 4*y^4", False), ("y'^3 - y^2 - 1", True),
                            ("y'^2*y - y'*y - 1", True), ("(y'^3 - y)*(y'^2 + y + 1)", False), ("y'^5 - y*y' + 3", True),
                            ("(y' - y)^2", False), ("y*y' - 1", True), ("(y'^2 - y)*(y'^6 - y*y' + 2)", False)):
            self.assertIs(is_seen_irreducible(read(text), ("y", 1)), right, text)

    def test_least(self):
        # z is y' or -y', so a relation of the degree 2 in w is not the least one.
        z, w = ("z", 0), ("w", 0)
        square = [(z, read("z^2 - y"))]
        self.assertIs(is_seen_least(read("w^2 - y"), w, square), False)
        self.assertIs(is_seen_least(read("w^2 - z"), w, square), True)
        self.assertIs(is_seen_least(read("w^2 - y*x"), w, square), True)
        self.assertIs(is_seen_least(read("w - y"), w, square), True)
        self.assertIs(is_seen_least(read("w^3 - z"), w, [(z, read("y*z - x"))]), True)
        self.assertIs(is_seen_least(read("w^3 - z"), w, [(z, read("z^3 - x"))]), False)

    def test_values_that_took_long(self):
        for model, z in (((told(o="q"), ("q", "r"), (), told(t="9*o*r", s="o^2"), ()), "r"),
                         ((told(f="l"), ("l", "o"), (), told(r="f^2", u="9*f*o"), ()), "l"),
                         ((told(m="k^2 + 4*m*n"), ("n", "k"), (), told(y="m"), ()), "k")):
            d, value = values_of(model, z)
            self.assertEqual(d, 2)
            self.assertIs(is_general(model, ranking_for(model, z), value), True)


class RowsTest(unittest.TestCase):
    def test_interpolation(self):
        rng = rng_of(60)
        for p in (101, P):
            for count in (1, 2, 7):
                row = [rng.randrange(p) for _ in range(count)]
                points = rng.sample(range(100), count)
                table = [sum(n * point ** k for k, n in enumerate(row)) % p for point in points]
                self.assertEqual(Places(points, p).polynomial(table), row)

    def test_fractions(self):
        points = list(range(1, 12))
        table = [(3 * t * t + 1) * pow(t + 5, -1, P) % P for t in points]
        n, d = fraction_with(points, table, P)
        self.assertEqual((len(n), len(d)), (3, 2))
        for t in (50, 60):
            left = sum(a * t ** k for k, a in enumerate(n)) * (t + 5)
            self.assertEqual((left - sum(a * t ** k for k, a in enumerate(d)) * (3 * t * t + 1)) % P, 0)
        self.assertIsNone(fraction_with(points, [rng_of(t).randrange(P) for t in points], P))

    def test_roots_and_divisions(self):
        for row, known in (([6, 5, 1], True), ([1, 0, 1], False), ([4, 2], True), ([4, 2, 0], True), ([1], False), ([1, 0, 0, 1], False)):
            for place in (0, 1):
                root = root_of(row, P, place)
                self.assertEqual(root is not None, known)
                if known:
                    self.assertEqual(sum(n * root ** k for k, n in enumerate(row)) % P, 0)
        self.assertNotEqual(root_of([6, 5, 1], P, 0), root_of([6, 5, 1], P, 1))
        whole = product_of_points([3, 4, 5], P)
        self.assertEqual(divided(whole, product_of_points([4], P), P), (product_of_points([3, 5], P), []))


if __name__ == "__main__":
    unittest.main()
