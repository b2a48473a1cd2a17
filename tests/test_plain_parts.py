"""Points 34 and 38: plain parts."""

import unittest

from ratesay.errors import BadRanking, BadSystem
from ratesay.finding import plain_parts
from ratesay.polynomials import as_number, power
from ratesay.rankings import leader
from ratesay.texts import read
from ratesay.trees import is_plain, judged, leaf_cases
from tests import kinds, reference
from tests.helpers import ANYTHING, polys, rng_of, system, value
from tests.kinds import letters, polynomial, ranking
from tests.points import is_simple_at, small_point, solves, through
from tests.test_rankings import NO_RANKINGS


class PlainPartsTest(unittest.TestCase):
    def parts(self, pair, told):
        """The leaves of the told tree, when all that can be seen without points was looked at."""
        tree, leaves = plain_parts(pair, told)
        found = judged(pair, None, tree)
        self.assertIsNotNone(found)
        self.assertTrue(is_plain(tree))
        self.assertLessEqual(len(tree), 400)
        self.assertEqual(leaves, leaf_cases(pair, tree))
        self.assertEqual(leaves, tuple(row[2] for row in found))
        self.assertEqual([row[0] for row in found], sorted(row[0] for row in found))
        for equations, inequations in leaves:
            for p in [*equations, *inequations]:
                self.assertIsNone(as_number(p))
            leading = [leader(p, told) for p in equations]
            self.assertEqual(len(set(leading)), len(leading))
            self.assertFalse(set(leading) & {leader(m, told) for m in inequations})
        return leaves

    def test_known_leaves(self):
        x = (("x",), ("y",))
        self.assertEqual(self.parts(((), ()), ()), (((), ()),))
        self.assertEqual(self.parts(((), polys("1", "-2")), x), (((), ()),))
        self.assertEqual(self.parts((polys("0"), ()), x), (((), ()),))
        self.assertEqual(self.parts((polys("3"), ()), x), ())
        self.assertEqual(self.parts(((), polys("0")), x), ())
        self.assertEqual(self.parts(system(["x"], ["x"]), x), ())
        self.assertEqual(self.parts(system(["x*y - 1"]), x), (system(["x*y - 1"], ["y"]),))
        self.assertEqual(self.parts(system(["x*y - 1", "y"]), x), ())
        self.assertEqual(self.parts(system(["x^2 + 1", "x^2 + 2"]), x), ())
        self.assertEqual(len(self.parts(system(["x^2 - y"]), x)), 2)

    def test_rates_play_no_part(self):
        told = system(["x' - 1", "x^2 - x"])
        leaves = self.parts(told, (("x",),))
        self.assertTrue(leaves)
        for a in (0, 1):
            point = {("x", 0): a, ("x", 1): 1}
            self.assertEqual(sum(solves(leaf, point) for leaf in leaves), 1)

    def test_squares_and_common_roots(self):
        told = (("x", "y"),)
        for texts in (["(x - y)^2"], ["(x - y)^2*(x + y)"], ["x^3 - 3*x + 2"], ["(x^2 - y)*(x - 1)", "x^2 - 1"]):
            pair = (polys(*texts), ())
            leaves = self.parts(pair, told)
            for a in range(-3, 4):
                for b in range(-3, 5):
                    point = {("x", 0): a, ("y", 0): b}
                    inside = [leaf for leaf in leaves if solves(leaf, point)]
                    self.assertEqual(len(inside), 1 if solves(pair, point) else 0)
                    for leaf in inside:
                        self.assertTrue(is_simple_at(leaf, told, point))

    def test_known_points(self):
        rng = rng_of(34)
        for _ in range(150):
            names = "xy"[:rng.randint(1, 2)]
            among = letters(names, [0] if rng.random() < 0.5 else [0, 1])
            told = ranking(rng, names)
            points = [small_point(rng, among) for _ in range(6)]
            count = rng.randint(1, 2)
            equations = tuple(through(polynomial(rng, among, 2, 2), points[0]) for _ in range(count))
            inequations = tuple(q for q in [polynomial(rng, among, 1, 2)] if count == 1 and value(q, points[0]))
            pair = (equations, inequations)
            leaves = self.parts(pair, told)
            for point in points:
                inside = [leaf for leaf in leaves if solves(leaf, point)]
                self.assertEqual(len(inside), 1 if solves(pair, point) else 0)
                for leaf in inside:
                    self.assertTrue(is_simple_at(leaf, told, point))

    def test_without_points(self):
        rng = rng_of(35)
        for _ in range(60):
            among = letters("xy", [0, 1])
            p, q = polynomial(rng, among, 2, 3), polynomial(rng, among, 1, 2)
            told = ranking(rng, "xy")
            self.assertEqual(self.parts(((p,), (p,)), told), ())
            if as_number(q) is None:
                self.assertEqual(self.parts(((power(q, 2),), (q,)), told), ())

    def test_light_kinds(self):
        for kind in kinds.KINDS:
            rng = rng_of(kind)
            for _ in range(60):
                self.parts(*kinds.question(rng, kind))
        rng = rng_of(3)
        for _ in range(100):
            self.parts(*kinds.third(rng, True))

    def test_second_judge(self):
        rng = rng_of(9)
        for _ in range(25):
            pair, told = kinds.third(rng, True)
            tree, leaves = plain_parts(pair, told)
            self.assertEqual(tuple(row[2] for row in reference.judge(pair, None, tree)), leaves)

    def test_errors(self):
        good = system(["x*y - 1"])
        for bad in [*ANYTHING, (polys("x"), [read("x")]), (polys("x"), (1,)), (polys("x"),)]:
            if bad not in [((), ())]:
                self.assertRaises(BadSystem, plain_parts, bad, 7)
        for bad in [*NO_RANKINGS, (("x",),), ()]:
            self.assertRaises(BadRanking, plain_parts, good, bad)


if __name__ == "__main__":
    unittest.main()
