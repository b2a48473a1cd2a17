"""Points 35, 36, 38: the cases of a system, their papers, and whether there are solutions."""

import unittest

from ratesay.errors import BadRanking, BadSystem
from ratesay.finding import cases_of, has_solutions
from ratesay.homes import is_cases
from ratesay.polynomials import less, letter, times
from ratesay.rates import rates
from ratesay.remainders import whole_rest
from ratesay.simple import holds_in
from ratesay.texts import read
from tests import kinds
from tests.helpers import ANYTHING, polys, rng_of, system
from tests.kinds import letters, polynomial, question, ranking
from tests.test_rankings import NO_RANKINGS
from tests.times import at, planted, random_functions, solves

X = (("x",),)


def sizes(paper):
    """The numbers of nodes of all trees of a paper."""
    tree, papers = paper
    found = [len(tree)]
    for backing, home in papers:
        found.extend(len(inner) for inner in backing + home[1])
    return found


class CasesTest(unittest.TestCase):
    def cases(self, pair, told):
        """The cases of a system, when the paper was judged."""
        cases, paper = cases_of(pair, told)
        self.assertTrue(is_cases(pair, told, cases, paper), (pair, told))
        self.assertLessEqual(max(sizes(paper)), 400)
        return cases

    def test_known_cases(self):
        self.assertEqual(self.cases(((), ()), ()), (((), ()),))
        self.assertEqual(self.cases(((), ()), (("x", "y"),)), (((), ()),))
        self.assertEqual(self.cases(system(["0"], ["5"]), X), (((), ()),))
        self.assertEqual(self.cases(system(["0"], ["0"]), X), ())
        self.assertEqual(self.cases(system(["7"]), X), ())
        self.assertEqual(self.cases(system(["x' - 1", "x^2 - x"]), X), ())
        cases = self.cases(system(["x'^2 - 4*x"]), X)
        self.assertEqual(len(cases), 2)
        self.assertEqual(sum(solves(case, planted(x=[0, 0, 1])) for case in cases), 1)
        self.assertEqual(sum(solves(case, planted(x=[])) for case in cases), 1)
        self.assertEqual(sum(solves(case, planted(x=[1])) for case in cases), 0)
        only = self.cases(system(["x'^2 - 4*x"], ["x"]), X)
        self.assertEqual(len(only), 1)
        self.assertTrue(holds_in(only[0], X, read("x'' - 2")))
        self.assertFalse(holds_in(only[0], X, read("x''")))

    def test_light_kinds(self):
        for kind in kinds.KINDS:
            rng = rng_of("cases" + kind)
            for _ in range(120):
                pair, told = question(rng, kind)
                self.cases(pair, told)

    def test_names_beside(self):
        rng = rng_of(36)
        for _ in range(40):
            pair, _ = kinds.second(rng)
            told = ranking(rng, "wxz")
            self.cases(pair, told)

    def test_functions_of_time(self):
        rng = rng_of(38)
        for _ in range(150):
            names = "xy"[:rng.randint(1, 2)]
            functions = random_functions(rng, names)
            equations = []
            for name in names:
                g = polynomial(rng, letters(names, [0]), 2, 2)
                p = less(letter(name, 1), g)
                if not at(p, functions):
                    equations.append(p)
            for _ in range(2):
                name = rng.choice(names)
                order = len(dict(functions)[name])
                if order <= 2:
                    equations.append(letter(name, order))
            pair = (tuple(equations[:2]), ())
            told = ranking(rng, names)
            cases = self.cases(pair, told)
            for row in [functions, *[random_functions(rng, names) for _ in range(4)]]:
                self.assertEqual(sum(solves(case, row) for case in cases), 1 if solves(pair, row) else 0)

    def test_what_follows_has_rest_zero(self):
        rng = rng_of(39)
        for kind in ("F1", "F2", "F4"):
            for _ in range(40):
                pair, told = question(rng, kind)
                p = rng.choice(pair[0])
                f = times(rates(p, 1)[1], polynomial(rng, [("x", 0)], 1, 2))
                for case in self.cases(pair, told):
                    self.assertTrue(holds_in(case, told, f))
                    self.assertEqual(whole_rest(f, case[0], told)[1], ())
                    for q in pair[1]:
                        self.assertFalse(holds_in(case, told, q))

    def test_equal_calls(self):
        for kind in kinds.KINDS:
            rng = rng_of("equal" + kind)
            for _ in range(15):
                pair, told = question(rng, kind)
                self.assertEqual(cases_of(pair, told), cases_of(pair, told))

    def test_has_solutions(self):
        for pair, answer in (
            (system(["x' - 1", "x^2 - x"]), False),
            (system(["x'^2 - 4*x"]), True),
            (system(["x'^2 - 4*x"], ["x", "x'' - 2"]), False),
            (((), ()), True),
            (system(["0"], ["1"]), True),
            (system([], ["0"]), False),
            (system(["2"]), False),
            (system(["x'^2 + 1"]), True),
            (system(["x*y - 1", "x'", "y' - 1"]), False),
            (system(["x'' + x"], ["x"]), True),
            (system(["x^2 - 2", "x'"], ["x"]), True),
            (system(["x^2 - 2"], ["x'"]), False),
        ):
            self.assertIs(has_solutions(pair), answer, pair)
        for kind in kinds.KINDS:
            rng = rng_of("has" + kind)
            for _ in range(60):
                pair, told = question(rng, kind)
                self.assertIs(has_solutions(pair), bool(cases_of(pair, told)[0]))

    def test_errors(self):
        good = system(["x*y - 1"])
        for bad in [*ANYTHING, (polys("x"), [read("x")]), ([read("x")], ()), (polys("x"), (1,)), (polys("x"),)]:
            if bad != ((), ()):
                self.assertRaises(BadSystem, cases_of, bad, 7)
                self.assertRaises(BadSystem, has_solutions, bad)
        for bad in [*NO_RANKINGS, X, ()]:
            self.assertRaises(BadRanking, cases_of, good, bad)


if __name__ == "__main__":
    unittest.main()
