"""Points 29, 37, 38, 55: one case, and the case of planted functions."""

import unittest

from ratesay.errors import BadPlanted, BadRanking, BadSystem, NotOne
from ratesay.finding import one_case, planted_case
from ratesay.homes import is_home
from ratesay.polynomials import letter, plus
from ratesay.simple import is_case, is_shown_simple
from ratesay.texts import read
from tests.helpers import polys, rng_of, system
from tests.kinds import letters, polynomial, ranking
from tests.times import at, planted, random_functions, solves, told

X = (("x",),)
NO_FUNCTIONS = [
    None, 0, "x", [], ["x"], ("x",), (("x",),), (("x", 1),), (("x", [(1, 1)]),), (("x", ((0, 1),)),),
    (("x", ((1, 1), (0, 1))),), (("x", ((2, 2),)),), (("x", (1,)),), (["x", ()],), (("X", ()),), ((1, ()),),
    (("x", ()), ("x", ())), (("x", ((True, 1),)),), [("x", ())], {"x": ()}, (("x", ((1, 0),)),), (("x", (), ()),),
]


class PlantedTest(unittest.TestCase):
    def right(self, pair, ranked, found, functions=None):
        case, backing, home = found
        self.assertTrue(is_case(case, ranked))
        self.assertTrue(is_shown_simple(case, ranked, backing))
        self.assertTrue(is_home(case, ranked, pair, home))
        if functions is not None:
            self.assertTrue(solves(case, functions))
        return case

    def test_examples(self):
        pair = system(["x'^2 - 4*x"])
        for row, text in (([0, 0, 1], "x"), ([1, 2, 1], "x")):
            functions = planted(x=row)
            case = self.right(pair, X, planted_case(pair, X, functions), functions)
            self.assertEqual(case[1], polys(text))
        functions = planted(x=[])
        case = self.right(pair, X, planted_case(pair, X, functions), functions)
        self.assertEqual(len(case[0]), 1)
        self.assertEqual(self.right(((), ()), (), planted_case(((), ()), (), ())), ((), ()))

    def test_a_function_of_zeros(self):
        pair = system(["x'^2 + x^2 - 1"])
        # At sine this is 0 and x is not; all that is asked is a multiple of what is 0 at cosine and sine.
        case = self.right(pair, X, one_case(pair, X, lambda p: p == pair[0][0]))
        self.assertEqual(case[0], pair[0])

    def test_random_functions(self):
        rng = rng_of(37)
        for _ in range(120):
            names = "xy"[:rng.randint(1, 2)]
            functions = random_functions(rng, names)
            ranked = ranking(rng, names)
            equations = []
            for _ in range(rng.randint(1, 2)):
                among = letters(names, [0, 1])
                p = polynomial(rng, among, 1, 2)
                worth = at(p, functions)
                # The functions have the degree 2 at most, so a number and the third rates make p 0 at them.
                if len(worth) <= 1:
                    number = read(str(-worth[0]) if worth else "0")
                    equations.append(plus(p, number))
            equations.extend(letter(name, len(row)) for name, row in functions if len(row) < 3)
            inequations = [q for q in [polynomial(rng, letters(names, [0]), 1, 2)] if at(q, functions)]
            pair = (tuple(equations[:3]), tuple(inequations))
            self.assertTrue(solves(pair, functions))
            case = self.right(pair, ranked, planted_case(pair, ranked, functions), functions)
            other = one_case(pair, ranked, lambda p, row=functions: not at(p, row))
            self.assertEqual(self.right(pair, ranked, other), case)

    def test_not_one(self):
        pair = system(["x' - y", "y' - 2", "x - y"], ["x", "y - 2", "x' + 1"])
        ranked = (("x", "y"),)
        for functions, kind, place in (
            (planted(x=[0, 0, 2], y=[0, 2]), "equation", 0),
            (planted(x=[0, 1], y=[1]), "equation", 1),
            (planted(x=[0, 0, 1], y=[0, 2]), "equation", 2),
            (planted(x=[], y=[1]), "equation", 0),
        ):
            with self.assertRaises(NotOne) as caught:
                planted_case(pair, ranked, functions)
            self.assertEqual((caught.exception.kind, caught.exception.place), (kind, place))
        pair = (polys("x'"), polys("x", "x - 1", "x - 2", "0"))
        for row, place in (([], 0), ([1], 1), ([2], 2), ([3], 3)):
            with self.assertRaises(NotOne) as caught:
                planted_case(pair, X, planted(x=row))
            self.assertEqual((caught.exception.kind, caught.exception.place), ("inequation", place))

    def test_errors(self):
        pair = system(["x' - 1"])
        for bad in NO_FUNCTIONS:
            self.assertRaises(BadPlanted, planted_case, pair, X, bad)
        self.assertRaises(BadPlanted, planted_case, pair, X, ())
        self.assertRaises(BadPlanted, planted_case, pair, X, planted(x=[0, 1], y=[1]))
        self.assertRaises(BadPlanted, planted_case, pair, X, planted(y=[0, 1]))
        self.assertRaises(BadPlanted, planted_case, pair, (("x", "y"),), planted(x=[0, 1]))
        self.assertRaises(BadPlanted, planted_case, pair, (("x", "y"),), tuple(reversed(planted(x=[0, 1], y=[]))))
        self.assertRaises(BadRanking, planted_case, pair, (("y",),), None)
        self.assertRaises(BadRanking, one_case, pair, None, None)
        self.assertRaises(BadSystem, planted_case, None, None, None)
        self.assertRaises(BadSystem, one_case, (1, 2), None, None)

    def test_forty_coefficients(self):
        row = [k + 1 for k in range(40)]
        functions = (("x", told(row)),)
        self.assertEqual(len(at(letter("x", 20), functions)), 20)
        pair = ((), (read("x^2 - x"),))
        self.right(pair, X, planted_case(pair, X, functions), functions)


if __name__ == "__main__":
    unittest.main()
