"""Points 20, 21, 38: backings that are found."""

import unittest

from ratesay.errors import BadCase, BadRanking
from ratesay.finding import cases_of, simple_backing
from ratesay.simple import is_case, is_shown_simple
from tests import kinds
from tests.helpers import ANYTHING, polys, rng_of, system
from tests.kinds import letters, polynomial, question, ranking
from tests.points import all_letters, is_simple_at, small_point, solves

X = (("x",),)
XY = (("x",), ("y",))


class BackingTest(unittest.TestCase):
    def test_examples(self):
        for case, told, simple in (
            (system(["x*y - 1"], ["y"]), XY, True),
            (system(["x*y - 1"]), XY, False),
            (system(["x^2 - y"], ["y"]), XY, True),
            (system(["x^2 - y"]), XY, False),
            (system(["x'^2 - 4*x"], ["x"]), X, True),
            (system(["x'^2 - 4*x"]), X, False),
            (((), ()), (), True),
            (system([], ["x*y - 1"]), XY, False),
            (system([], ["x*y - 1", "y"]), XY, True),
            (system(["y^2 - 2", "x^2 - y"]), XY, True),
            (system(["y^2 - y", "x^2 - y"]), XY, False),
            (system(["y^2 - 2", "y*x - 1"]), XY, True),
            (system(["x^3 - 3*x + 2"]), X, False),
            (system(["x^3 - 3*x + 1"]), X, True),
            (system(["x - 1", "y^2 - 2"], []), XY, True),
        ):
            backing = simple_backing(case, told)
            self.assertEqual(backing is not None, simple, case)
            if simple:
                self.assertTrue(is_shown_simple(case, told, backing))
                self.assertLessEqual(max([len(tree) for tree in backing], default=0), 400)

    def test_told_cases(self):
        for kind in kinds.KINDS:
            rng = rng_of("backing" + kind)
            for _ in range(40):
                pair, told = question(rng, kind)
                for case in cases_of(pair, told)[0]:
                    self.assertTrue(is_shown_simple(case, told, simple_backing(case, told)))

    def test_small_cases(self):
        rng = rng_of(21)
        found = {True: 0, False: 0}
        while min(found.values()) < 60:
            names = "xyz"[:rng.randint(1, 3)]
            told = ranking(rng, names)
            among = letters(names, [0, 1])
            rows = [polynomial(rng, among, 2, 3) for _ in range(rng.randint(1, 3))]
            cut = rng.randint(0, len(rows))
            case = (tuple(rows[:cut]), tuple(rows[cut:]))
            if not is_case(case, told):
                continue
            backing = simple_backing(case, told)
            found[backing is not None] += 1
            if backing is not None:
                self.assertTrue(is_shown_simple(case, told, backing))
                for _ in range(10):
                    point = small_point(rng, all_letters(case))
                    if solves(case, point):
                        self.assertTrue(is_simple_at(case, told, point))

    def test_errors(self):
        for bad in [*ANYTHING, (polys("x"), polys("1")), (polys("2"), ()), (polys("x"), [])]:
            if bad != ((), ()):
                self.assertRaises(BadCase, simple_backing, bad, 5)
        case = system(["x*y - 1"], ["y"])
        for bad in (None, X, (("x", "x"), ("y",)), [("x",), ("y",)]):
            self.assertRaises(BadRanking, simple_backing, case, bad)
        self.assertRaises(BadCase, simple_backing, system(["x", "x'"]), X)
        self.assertRaises(BadCase, simple_backing, system(["x - y"], ["x + y"]), XY)


if __name__ == "__main__":
    unittest.main()
