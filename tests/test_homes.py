"""Points 29 and 30: homes, and papers of the cases of a system."""

import unittest

from ratesay import homes
from ratesay.errors import BadRanking, BadSteps
from ratesay.homes import is_cases, is_home
from ratesay.polynomials import number, plus, power, times
from ratesay.rates import rates
from ratesay.remainders import follow, whole_rest
from ratesay.texts import read
from tests.helpers import ANYTHING, NO_POLYNOMIALS, polys, random_polynomial, rng_of, system
from tests.test_rankings import NO_RANKINGS
from tests.test_simple import NUMBER, SQUARE, X, XY
from tests.test_trees import CASES, mutated

ONE = number((1, 1))
EQUATION = system(["x'^2 - 4*x"])
ZERO_CASE = system(["-4*x"])
OTHER_CASE = (EQUATION[0], polys("4*x"))
GIVENS = (EQUATION[0] + polys("x'"), ())
ZERO_HOME = (
    (
        ((0, 1, 0, read("-1/4*x'")), (0, 0, 0, ONE)),
        ((0, 1, 0, read("-1/4")),),
    ),
    (),
)
HALF = ((("sum", ((0, ONE), (1, read("-1/2*x'")))),), ("contradiction", 2, ((0, 1),)))
WHOLE = ((("sum", ((0, ONE), (1, read("-x'")))),), ("contradiction", 2, ((0, 1),)))
OTHER_GIVENS = (EQUATION[0], polys("x'"))
OTHER_HOME = ((((0, 0, 0, ONE),),), ((WHOLE,),))
ZERO_BACKING = (NUMBER, (((), ("contradiction", 1, ())),))
OTHER_BACKING = (NUMBER, (HALF,), NUMBER)
PAPER = (CASES, ((ZERO_BACKING, ZERO_HOME), (OTHER_BACKING, OTHER_HOME)))
BOTH = (ZERO_CASE, OTHER_CASE)


class HomeTest(unittest.TestCase):
    def test_right(self):
        self.assertIs(is_home(ZERO_CASE, X, GIVENS, ZERO_HOME), True)
        self.assertIs(is_home(OTHER_CASE, X, OTHER_GIVENS, OTHER_HOME), True)
        self.assertIs(is_home(((), ()), (), ((), ()), ((), ())), True)
        self.assertIs(is_home(((), ()), X, (((),), ()), (((),), ())), True)
        self.assertIs(is_home(SQUARE, X, SQUARE, ((((0, 0, 0, ONE),),), ((((), ("contradiction", 1, ((0, 1),))),),))), True)

    def test_longer_home(self):
        more = ((0, 0, 0, read("x''")), (0, 0, 0, read("-x''")), (0, 2, 3, ()), (0, 0, 5, ()))
        self.assertIs(is_home(ZERO_CASE, X, GIVENS, ((more + ZERO_HOME[0][0], ZERO_HOME[0][1]), ())), False)
        more = ((0, 0, 0, read("x''")), (0, 0, 0, read("-x''")), (0, 2, 0, ()), (0, 0, 0, ()))
        self.assertIs(is_home(ZERO_CASE, X, GIVENS, ((more + ZERO_HOME[0][0], ZERO_HOME[0][1]), ())), True)

    def test_one_thing_changed(self):
        first, second = ZERO_HOME[0]
        rate, plain = first
        wrong = [
            (((rate,), second), ()),
            (((plain,), second), ()),
            (((rate, plain, plain), second), ()),
            ((((0, 1, 0, read("1/4*x'")), plain), second), ()),
            ((((0, 1, 0, read("-1/4*x")), plain), second), ()),
            ((((0, 1, 0, ()), plain), second), ()),
            ((((0, 0, 0, read("-1/4*x'")), plain), second), ()),
            ((((0, 2, 0, read("-1/4*x'")), plain), second), ()),
            ((((0, 1, 1, read("-1/4*x'")), plain), second), ()),
            ((((1, 1, 0, read("-1/4*x'")), plain), second), ()),
            ((second, first), ()),
            ((first,), ()),
            ((first, second, ()), ()),
            ((first, second), (NUMBER,)),
            ((first, second),),
            ((first, second), (), ()),
            ([first, second], ()),
            ((first, second), []),
            ((list(first), second), ()),
            (([*first], list(second)), ()),
            [ZERO_HOME[0], ()],
            ((((True, 1, 0, rate[3]), plain), second), ()),
            ((((False, 1, 0, rate[3]), plain), second), ()),
            ((((0, True, 0, rate[3]), plain), second), ()),
            ((((0, 1, False, rate[3]), plain), second), ()),
            (((rate + (0,), plain), second), ()),
            (((list(rate), plain), second), ()),
        ]
        for value in wrong + ANYTHING:
            self.assertIs(is_home(ZERO_CASE, X, GIVENS, value), False, value)
        for bad in NO_POLYNOMIALS:
            self.assertIs(is_home(ZERO_CASE, X, GIVENS, (((rate, (0, 0, 0, bad)), second), ())), False)
        # The steps may be exchanged here, as each takes a multiple away.
        self.assertIs(is_home(ZERO_CASE, X, GIVENS, (((plain, rate), second), ())), True)

    def test_trees_of_inequations(self):
        steps = OTHER_HOME[0]
        opened = (((), ("case", (), ())),)
        goal = (((), ("goal", 0, 1, ())),)
        wrong = [(), (None,), (HALF,), (opened,), (goal,), (NUMBER,), ((WHOLE,), (WHOLE,)), [(WHOLE,)], (WHOLE,), ([WHOLE],)]
        for trees in wrong + [((HALF,),)]:
            self.assertIs(is_home(OTHER_CASE, X, OTHER_GIVENS, (steps, trees)), False, trees)
        # The system of a tree is A with q behind, and M: here q is at place 1 of E.
        rated = (((("rate", 0), *WHOLE[0][:0], ("sum", ((0, ONE), (1, read("-x'"))))), ("contradiction", 3, ((0, 1),))),)
        self.assertIs(is_home(OTHER_CASE, X, OTHER_GIVENS, (steps, (rated,))), True)

    def test_several_equations_and_inequations(self):
        case = system(["x*y - 1", "y' - y"], ["y"])
        givens = system(["x*y - 1", "x' + x", "x''*y - 1"], ["x", "2*y"])
        # (x*y - 1)' = x'*y + x*y' and y' = y: y (x' + x) comes from both.
        second = ((0, 1, 1, ONE), (1, 0, 0, read("-x")))
        self.assertEqual(follow(givens[0][1], case[0], XY, second), ())
        steps, rest = whole_rest(givens[0][2], case[0], XY)
        self.assertEqual(rest, ())
        trees = (
            (((("sum", ((0, read("-1")), (2, read("y")))),), ("contradiction", 3, ())),),
            (((), ("contradiction", 2, ((0, 1),))),),
        )
        home = ((((0, 0, 0, ONE),), second, steps), trees)
        self.assertIs(is_home(case, XY, givens, home), True)
        self.assertIs(is_home(case, XY, (givens[0], givens[1][::-1]), home), False)
        self.assertIs(is_home(case, XY, (givens[0][::-1], givens[1]), home), False)
        self.assertIs(is_home(case, XY, givens, (home[0], trees[::-1])), False)
        self.assertIs(is_home(case, XY, (givens[0][:2], givens[1]), (home[0][:2], trees)), True)

    def test_random_steps(self):
        rng = rng_of(2)
        case = system(["y*x^2 - x' + x''", "y'^2 - y"], ["y"])
        letters = [("x", 0), ("x", 2), ("y", 0), ("y", 1)]
        right = 0
        for _ in range(200):
            p, steps = (), []
            for _ in range(rng.randint(0, 4)):
                i, j = rng.randint(0, 1), rng.randint(0, 2)
                m = random_polynomial(rng, letters, 2, rng.randint(0, 3))
                p = plus(p, times(m, rates(case[0][i], j)[j]))
                steps.append((i, j, 0, m))
            rng.shuffle(steps)
            self.assertIs(is_home(case, XY, ((p, p), ()), ((tuple(steps), tuple(steps[::-1])), ())), True)
            bent = mutated(rng, tuple(steps))
            try:
                told = follow(p, case[0], XY, bent) == ()
            except BadSteps:
                told = False
            self.assertIs(is_home(case, XY, ((p,), ()), ((bent,), ())), told)
            right += told
        self.assertGreater(right, 5)

    def test_e_and_j_of_20_and_21(self):
        case, ranking = system(["y*x", "z"], ["y"]), (("x",), ("y", "z"))
        for k, told in ((20, True), (21, False)):
            top = ((((("z", k), 1),), (1, 1)),)
            self.assertIs(is_home(case, ranking, ((top,), ()), ((((1, k, 0, ONE),),), ())), told)
            self.assertIs(is_home(case, ranking, (((),), ()), ((((1, k, 0, ()),),), ())), told)
            self.assertIs(is_home(case, ranking, ((read("x"),), ()), ((((0, 0, k, power(read("y"), k - 1)),),), ())), told)
            self.assertIs(is_home(case, ranking, (((),), ()), ((((0, 0, k, ()),),), ())), told)
            self.assertIs(is_home(case, ranking, (((),), ()), ((((0, 1, k, ()),),), ())), told)


class WorkTest(unittest.TestCase):
    """The case is (y + 1) x = 0, its head y + 1 has 2 pairs."""

    CASE = system(["y*x + x", "z"], ["y + 1"])
    RANKING = (("x",), ("y", "z"))

    def power_row(self, k):
        """The steps that take x to 0, and their work: 2^k for the head, 2 k for the multiplier."""
        half = (k - 1) // 2
        m = times(power(read("y + 1"), half), power(read("y + 1"), k - 1 - half))
        return (((0, 0, k, m),), 2 ** k + 2 * k)

    def rows_of(self, work):
        """Equations and rows of steps of so much work in all, from 2 on."""
        equations, rows = [], []
        rest = work - 2
        for k in range(20, 0, -1):
            steps, cost = self.power_row(k)
            while cost <= rest:
                equations.append(read("x"))
                rows.append(steps)
                rest -= cost
        # On z a step without a multiplier costs 1, and the last one 2.
        equations.append(read("z"))
        rows.append(((1, 0, 0, ()),) * rest + ((1, 0, 0, ONE),))
        return equations, rows

    def work_is(self, equations, rows, work):
        """Checks that rows of steps have so much work."""
        for more in (0, 1):
            first, second = self.rows_of(3000000 - work + more)
            told = is_home(self.CASE, self.RANKING, (tuple([*first, *equations]), ()), (tuple([*second, *rows]), ()))
            self.assertIs(told, more == 0)
            told = is_home(self.CASE, self.RANKING, (tuple([*equations, *first]), ()), (tuple([*rows, *second]), ()))
            self.assertIs(told, more == 0)

    def test_powers_and_multipliers(self):
        self.work_is([], [], 0)
        self.work_is([()], [((0, 0, 20, ()),)], 0)
        steps, cost = self.power_row(5)
        self.work_is([read("x")], [steps], cost)
        # z x' + z x times (y + 1)^3, less z (y + 1)^2 times y x + x; what is left is a multiple of z.
        f = read("x'*z + x*z")
        steps = ((0, 0, 3, read("z*y^2 + 2*z*y + z")), (1, 0, 0, read("x'*y^3 + 3*x'*y^2 + 3*x'*y + x'")))
        self.assertEqual(follow(f, self.CASE[0], self.RANKING, steps), ())
        # 2^3 * 2 + 3 * 2, then 4 + 4 * 1.
        self.work_is([f], [steps], 22 + 8)

    def test_rates_once(self):
        # The rate of y x + x costs 3; it has 3 pairs.
        f = read("x'*y + x*y' + x'")
        self.work_is([f], [((0, 1, 0, ONE),)], 3 + 3 + 3)
        self.work_is([f, f], [((0, 1, 0, ONE),)] * 2, 3 + 6 + 6)
        # The second rate needs the first one: 3 for it, 2 + 2 + 1 more for x'*y + x*y' + x'.
        self.work_is([()], [((0, 2, 0, ONE), (0, 2, 0, read("-1")))], 3 + 5 + 4 + 4 + 4)
        self.work_is([(), f], [((0, 2, 0, ONE), (0, 2, 0, read("-1"))), ((0, 1, 0, ONE),)], 3 + 5 + 12 + 6)
        self.work_is([f, ()], [((0, 1, 0, ONE),), ((0, 2, 0, ONE), (0, 2, 0, read("-1")))], 3 + 5 + 12 + 6)
        # Rates of different members are counted each.
        self.work_is([read("z'"), f], [((1, 1, 0, ONE),), ((0, 1, 0, ONE),)], 1 + 2 + 3 + 6)

    def test_rates_alone_go_beyond(self):
        f = read("x'*y + x*y' + x'")
        for left, told in ((9, True), (8, False), (2, False), (0, False)):
            first, second = self.rows_of(3000000 - left)
            home = (tuple([*second, ((0, 1, 0, ONE),)]), ())
            self.assertIs(is_home(self.CASE, self.RANKING, (tuple([*first, f]), ()), home), told)

    def test_great_heads_are_not_worked_out(self):
        head = tuple(((((("x", 0), 1), (("y", k), 1))), (1, 1)) for k in range(20))
        case = ((head,), ())
        self.assertIs(is_home(case, self.RANKING, ((read("x"),), ()), ((((0, 0, 20, ()),),), ())), False)
        self.assertIs(is_home(case, self.RANKING, (((),), ()), ((((0, 0, 20, ()),),), ())), True)


class CasesTest(unittest.TestCase):
    def test_right(self):
        self.assertIs(is_cases(EQUATION, X, BOTH, PAPER), True)
        # No case at all: the tree refutes the system.
        self.assertIs(is_cases(system(["1"]), (), (), (NUMBER, ())), True)
        self.assertIs(is_cases(((), ()), (), (((), ()),), ((((), ("case", (), ())),), (((), ((), ())),))), True)
        self.assertIs(is_cases(((), ()), XY, (((), ()),), ((((), ("case", (), ())),), (((), ((), ())),))), True)

    def test_one_thing_changed(self):
        tree, (first, second) = PAPER
        wrong = [
            (BOTH, (tree, (second, first))),
            (BOTH[::-1], PAPER),
            (BOTH[::-1], (tree, (second, first))),
            (BOTH[:1], PAPER),
            (BOTH[:1], (tree, (first,))),
            (BOTH, (tree, (first,))),
            (BOTH, (tree, (first, second, second))),
            ((*BOTH, ZERO_CASE), (tree, (first, second, second))),
            ((system(["x"]), OTHER_CASE), PAPER),
            ((ZERO_CASE, (EQUATION[0], polys("x"))), PAPER),
            ((ZERO_CASE, EQUATION), PAPER),
            (BOTH, (tree[:2], (first, second))),
            (BOTH, ((tree[0], tree[2], tree[1]), (first, second))),
            (BOTH, (tree, ((ZERO_BACKING, OTHER_HOME), second))),
            (BOTH, (tree, ((OTHER_BACKING, ZERO_HOME), second))),
            (BOTH, (tree, ((ZERO_BACKING[::-1], ZERO_HOME), second))),
            (BOTH, (tree, ((ZERO_BACKING,), second))),
            (BOTH, (tree, ((ZERO_BACKING, ZERO_HOME, ()), second))),
            (BOTH, (tree, (list(first), second))),
            (BOTH, (tree, [first, second])),
            (BOTH, [tree, (first, second)]),
            (list(BOTH), PAPER),
            ((list(ZERO_CASE), OTHER_CASE), PAPER),
            (BOTH, (tree, (first, second), ())),
            (BOTH, (list(tree), (first, second))),
        ]
        for cases, paper in wrong:
            self.assertIs(is_cases(EQUATION, X, cases, paper), False, (cases, paper))
        for value in ANYTHING:
            self.assertIs(is_cases(EQUATION, X, value, PAPER), False)
            self.assertIs(is_cases(EQUATION, X, BOTH, value), False)
            self.assertIs(is_cases(EQUATION, X, BOTH, (value, PAPER[1])), False)
            self.assertIs(is_cases(EQUATION, X, BOTH, (tree, value)), False)

    def test_true_is_no_integer(self):
        wrong = (((((((("x", 0), 1),), (-4, True)),),)), ())
        self.assertEqual(wrong, ZERO_CASE)
        self.assertIs(is_cases(EQUATION, X, (wrong, OTHER_CASE), PAPER), False)

    def test_numbers_of_the_nodes(self):
        tree, (first, second) = PAPER
        turned = (((), ("split", read("x'"), 2, 1)), tree[2], tree[1])
        self.assertIs(is_cases(EQUATION, X, BOTH[::-1], (turned, (second, first))), True)
        self.assertIs(is_cases(EQUATION, X, BOTH, (turned, (first, second))), False)

    def test_a_leaf_that_is_no_case(self):
        told = system(["x", "x'"])
        tree = (((), ("case", (0, 1), ())),)
        home = ((((0, 0, 0, ONE),), ((1, 0, 0, ONE),)), ())
        self.assertIs(is_cases(told, X, (told,), (tree, ((((NUMBER,) * 4), home),))), False)
        tree = (((), ("case", (0,), ())),)
        home = ((((0, 0, 0, ONE),), ((0, 1, 0, ONE),)), ())
        backing = (NUMBER, (((), ("contradiction", 1, ())),))
        self.assertIs(is_cases(told, X, (system(["x"]),), (tree, ((backing, home),))), True)
        # A number among the members.
        self.assertIs(is_cases(system([], ["2"]), X, (system([], ["2"]),), ((((), ("case", (), (0,))),), ((NUMBER,), ((), ())))), False)

    def test_a_leaf_that_is_not_at_home(self):
        told = system(["x", "y"])
        tree = (((), ("case", (0,), ())),)
        backing = (NUMBER, (((), ("contradiction", 1, ())),))
        for row in ((), ((0, 0, 0, ONE),), ((0, 0, 1, read("y")),)):
            home = ((((0, 0, 0, ONE),), row), ())
            self.assertIs(is_cases(told, XY, (system(["x"]),), (tree, ((backing, home),))), False)

    def test_mutations(self):
        rng = rng_of(1)
        wrong = 0
        for _ in range(400):
            cases, paper = BOTH, PAPER
            if rng.random() < 0.15:
                cases = mutated(rng, BOTH)
            else:
                paper = mutated(rng, PAPER)
            told = is_cases(EQUATION, X, cases, paper)
            self.assertIn(told, (True, False))
            wrong += not told
            if told:
                self.assertEqual(cases, BOTH)
        self.assertGreater(wrong, 300)

    def test_bad_ranking(self):
        for ranking in NO_RANKINGS + [(), (("y",),)]:
            for cases, paper in ((BOTH, PAPER), (None, None)):
                with self.assertRaises(BadRanking):
                    is_cases(EQUATION, ranking, cases, paper)
        with self.assertRaises(BadRanking):
            is_cases(system([], ["x"]), (("y",),), None, None)
        self.assertIs(is_cases(EQUATION, (("y",), ("x", "z")), BOTH, PAPER), True)

    def test_each_function_stands_in_its_file(self):
        for name in ("is_home", "is_cases"):
            self.assertEqual(getattr(homes, name).__module__, "ratesay.homes")


if __name__ == "__main__":
    unittest.main()
