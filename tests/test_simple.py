"""Points 19 to 21 and 25: cases, the part below a letter, obligations, backings, what holds in a case."""

import unittest

from ratesay import simple
from ratesay.errors import BadCase, BadLetter, BadPolynomial, BadRanking
from ratesay.polynomials import number, plus, times
from ratesay.rates import rates
from ratesay.simple import free_names, holds_in, is_case, is_shown_simple, obligations, part_below
from ratesay.texts import read
from tests.helpers import ANYTHING, NO_POLYNOMIALS, polys, random_polynomial, rng_of, system
from tests.test_rankings import NO_RANKINGS
from tests.test_trees import mutated

ONE = number((1, 1))
X, XY = (("x",),), (("x",), ("y",))
SQUARE = system(["x'^2 - 4*x"], ["x"])
QUOTIENT = system(["x*y - 1"], ["y"])
ROOTS = system(["x^2 - y"], ["y"])
NUMBER = (((), ("contradiction", 0, ())),)
SECOND = (((), ("contradiction", 1, ())),)
SQUARE_BACKING = (
    NUMBER,
    (((("sum", ((0, ONE), (1, read("-1/2*x'")))),), ("contradiction", 2, ((0, 1),))),),
    NUMBER,
)
QUOTIENT_BACKING = ((((), ("contradiction", 0, ((0, 1),))),), (((), ("contradiction", 1, ((0, 1),))),), NUMBER)
ROOTS_BACKING = (
    NUMBER,
    (((("sum", ((0, ONE), (1, read("-1/2*x")))),), ("contradiction", 2, ((0, 1),))),),
    NUMBER,
)
NO_CASES = [
    value for value in ANYTHING if value != ((), ())
] + [
    list(SQUARE),
    (list(SQUARE[0]), ()),
    ((), list(SQUARE[1])),
    (SQUARE[0],),
    SQUARE + ((),),
    (read("x"), ()),
    (polys("x", "1"), ()),
    (polys("0"), ()),
    ((), polys("x", "-2/3")),
    ((), polys("0")),
    (None, ()),
    ((), None),
] + [((bad,), ()) for bad in NO_POLYNOMIALS] + [((), (bad,)) for bad in NO_POLYNOMIALS]
# For the ranking (("x", "y"),): each breaks one of (a), (b), (c) alone.
BROKEN = [
    system(["x^2 - 1", "x - y"]),
    system(["x'^2 - y", "x + y"]),
    system(["x - y", "x"]),
    system(["x'' + y'", "y^2 - 2"]),
    system(["y"], ["x'' + y'"]),
    system(["x - y"], ["x'"]),
    system(["y'^2 - y"], ["y''*x'' - 1"]),
    system(["x^2 - y"], ["x - 1"]),
    system(["x - y", "y - 1"], ["y"]),
]


class CasesTest(unittest.TestCase):
    def test_right(self):
        for value in (((), ()), SQUARE, QUOTIENT, ROOTS, system([], ["x", "x", "x' - y"]), system(["x' - y", "y' + x"], ["x*y - 1"]),
                      system(["y - 1", "x'' - x"], ["x'*y + 1", "x' - 3"])):
            self.assertIs(is_case(value, (("x", "y"),)), True, value)
        self.assertIs(is_case(((), ()), ()), True)
        self.assertIs(is_case(SQUARE, X), True)

    def test_wrong_of_any_kind(self):
        for value in NO_CASES + BROKEN:
            self.assertIs(is_case(value, (("x", "y"),)), False, value)
            for function in self.functions():
                with self.assertRaises(BadCase):
                    function(value, (("x", "y"),))

    def functions(self):
        """The functions that take a case and a ranking ahead of everything else; what is behind is wrong."""
        return [
            lambda case, ranking: part_below(case, ranking, None),
            obligations,
            free_names,
            lambda case, ranking: is_shown_simple(case, ranking, None),
            lambda case, ranking: holds_in(case, ranking, None),
        ]

    def test_missing_names(self):
        self.assertIs(is_case(SQUARE, (("y",),)), False)
        self.assertIs(is_case(QUOTIENT, X), False)
        self.assertIs(is_case(system([], ["y"]), X), False)
        for function in self.functions():
            for value in (SQUARE, system([], ["x"])):
                with self.assertRaises(BadRanking):
                    function(value, (("y",),))
            # A missing name goes ahead of (a) to (c).
            with self.assertRaises(BadRanking):
                function(system(["x", "x - z"]), (("x", "y"),))

    def test_bad_rankings(self):
        for ranking in NO_RANKINGS:
            for value in [SQUARE, ((), ()), None]:
                with self.assertRaises(BadRanking):
                    is_case(value, ranking)
            for function in self.functions():
                with self.assertRaises(BadRanking):
                    function(SQUARE, ranking)
                # The form goes ahead of the ranking, the ranking ahead of (a) to (c).
                for value in (None, (polys("x", "1"), ()), (polys("0"), ()), ((), polys("x", "2"))):
                    with self.assertRaises(BadCase):
                        function(value, ranking)
                with self.assertRaises(BadRanking):
                    function(system(["x", "x"]), ranking)

    def test_the_ranking_counts(self):
        value = system(["x - y"], ["y"])
        self.assertIs(is_case(value, XY), True)
        self.assertIs(is_case(value, (("y",), ("x",))), False)
        self.assertIs(is_case(system(["x' - y"], ["y'"]), XY), True)
        self.assertIs(is_case(system(["x' - y"], ["y'"]), (("y",), ("x",))), False)
        self.assertIs(is_case(system(["x' - y"], ["y''"]), (("y", "x"),)), True)

    def test_free_names(self):
        ranking = (("z", "y"), ("x",), ("a",))
        self.assertEqual(free_names(((), ()), ranking), ("a", "x", "y", "z"))
        self.assertEqual(free_names(system(["y' - x", "x^2 - a"], ["a"]), ranking), ("a", "z"))
        self.assertEqual(free_names(((), ()), ()), ())
        self.assertEqual(free_names(SQUARE, X), ())


class PartBelowTest(unittest.TestCase):
    def test_told(self):
        value = system(["x - y*z", "y'' - z", "z^2 - 2"], ["x'", "y", "y' - z", "z + 1"])
        with self.assertRaises(BadCase):
            part_below(value, (("x",), ("y",), ("z",)), ("x", 0))
        value = (value[0], value[1][1:3])
        ranking = (("x",), ("y",), ("z",))
        self.assertEqual(part_below(value, ranking, ("x", 1)), value)
        self.assertEqual(part_below(value, ranking, ("x", 0)), (value[0][1:], value[1]))
        self.assertEqual(part_below(value, ranking, ("y", 2)), (value[0][2:], value[1]))
        self.assertEqual(part_below(value, ranking, ("y", 1)), (value[0][2:], value[1][:1]))
        self.assertEqual(part_below(value, ranking, ("y", 0)), (value[0][2:], ()))
        self.assertEqual(part_below(value, ranking, ("z", 1)), (value[0][2:], ()))
        self.assertEqual(part_below(value, ranking, ("z", 0)), ((), ()))
        self.assertEqual(part_below(value, ranking, ("x", 21)), value)

    def test_order_of_members_stays(self):
        value = system(["z - 1", "y - z"], ["x' - z", "x", "x' + y"])
        ranking = (("x",), ("y", "z"))
        self.assertEqual(part_below(value, ranking, ("x", 2)), value)
        self.assertEqual(part_below(value, ranking, ("x", 1)), (value[0], value[1][1:2]))
        self.assertEqual(part_below(value, ranking, ("y", 0)), (value[0][:1], ()))

    def test_bad_letter(self):
        for value in (None, True, "x", "x'", ("x",), ("x", -1), ("x", True), ["x", 0], ("z", 0), ("X", 0), ((("x", 0), 1),)):
            with self.assertRaises(BadLetter) as caught:
                part_below(SQUARE, X, value)
            self.assertEqual(caught.exception.letter, value)


class BackingsTest(unittest.TestCase):
    def test_obligations(self):
        self.assertEqual(
            obligations(SQUARE, X),
            (
                ("initial", 0, (polys("1"), polys("x"))),
                ("separant", 0, (polys("x'^2 - 4*x", "2*x'"), polys("x"))),
                ("inequation", 0, (polys("1"), ())),
            ),
        )
        self.assertEqual(
            obligations(QUOTIENT, XY),
            (
                ("initial", 0, (polys("y"), polys("y"))),
                ("separant", 0, (polys("x*y - 1", "y"), polys("y"))),
                ("inequation", 0, (polys("1"), ())),
            ),
        )
        self.assertEqual(obligations(((), ()), ()), ())

    def test_obligations_in_their_order(self):
        value = system(["y*x^2 - z", "z*y - 1", "z^2 - 2"], ["(y + 1)*x'' + 1", "z*x' - y", "w*z' + 1"])
        ranking = (("x",), ("y",), ("z",), ("w",))
        with self.assertRaises(BadCase):
            obligations(value, ranking)
        value = (value[0][:2], polys("z'*w' + 1", "z - 1"))
        self.assertEqual(
            obligations(value, ranking),
            (
                ("initial", 0, (polys("z*y - 1", "y"), value[1])),
                ("separant", 0, (polys("z*y - 1", "y*x^2 - z", "2*x*y"), value[1])),
                ("initial", 1, (polys("z"), value[1])),
                ("separant", 1, (polys("z*y - 1", "z"), value[1])),
                ("inequation", 0, (polys("w'"), polys("z - 1"))),
                ("inequation", 1, (polys("1"), ())),
            ),
        )

    def test_right_backings(self):
        self.assertIs(is_shown_simple(SQUARE, X, SQUARE_BACKING), True)
        self.assertIs(is_shown_simple(QUOTIENT, XY, QUOTIENT_BACKING), True)
        self.assertIs(is_shown_simple(ROOTS, XY, ROOTS_BACKING), True)
        self.assertIs(is_shown_simple(((), ()), (), ()), True)
        self.assertIs(is_shown_simple(((), ()), XY, ()), True)

    def test_longer_backings(self):
        end = ("contradiction", 0, ())
        split = (((), ("split", read("x' - 7"), 1, 2)), ((("sum", ()),), end), ((("nonzero", (), ()), ("divisor", (), ONE, ONE)), end))
        self.assertIs(is_shown_simple(SQUARE, X, (split, *SQUARE_BACKING[1:])), True)
        self.assertIs(is_shown_simple(SQUARE, X, (*SQUARE_BACKING[:2], split)), True)

    def test_wrong_backings(self):
        first, second, third = SQUARE_BACKING
        wrong = [(first, second), (second, third), (first, second, third, third), (second, first, third), (first, third, second), (), (first,)]
        wrong.extend([list(SQUARE_BACKING), (first, list(second), third), (first, second, None), None, True, first, (first, second, ())])
        # Not plain, though right; an open leaf; a goal; a tree that refutes another obligation.
        rated = (((("rate", 0),), ("contradiction", 0, ())),)
        opened = (((), ("case", (0,), ())),)
        wrong.extend([(rated, second, third), (first, second, rated), (opened, second, third), (first, SECOND, third), (first, first, third)])
        wrong.append(((((), ("goal", 0, 1, ())),), second, third))
        for backing in wrong + ANYTHING:
            self.assertIs(is_shown_simple(SQUARE, X, backing), False, backing)
        self.assertIs(is_shown_simple(((), ()), (), (first,)), False)
        self.assertIs(is_shown_simple(((), ()), (), []), False)

    def test_no_backing_of_what_is_not_simple(self):
        self.assertIs(is_shown_simple(system(["x*y - 1"]), XY, QUOTIENT_BACKING[:2]), False)
        self.assertIs(is_shown_simple(system(["x^2 - y"]), XY, ROOTS_BACKING[:2]), False)

    def test_bent_backings(self):
        rng = rng_of(1)
        from tests.reference import judge

        right = 0
        for case, ranking, backing in ((SQUARE, X, SQUARE_BACKING), (ROOTS, XY, ROOTS_BACKING), (QUOTIENT, XY, QUOTIENT_BACKING)):
            asked = obligations(case, ranking)
            for _ in range(150):
                bent = mutated(rng, backing)
                told = isinstance(bent, tuple) and len(bent) == len(asked)
                told = told and all(judge(row[2], None, tree) == () for row, tree in zip(asked, bent))
                told = told and not any(step[0] == "rate" for tree in bent for steps, _ in tree for step in steps)
                self.assertIs(is_shown_simple(case, ranking, bent), told, bent)
                right += told
        self.assertGreater(right, 0)


class HoldsTest(unittest.TestCase):
    def test_example(self):
        self.assertIs(holds_in(SQUARE, X, read("x'' - 2")), True)
        self.assertIs(holds_in(SQUARE, X, read("x''")), False)
        self.assertIs(holds_in(SQUARE, X, read("x[3]")), True)
        self.assertIs(holds_in(SQUARE, X, ()), True)
        self.assertIs(holds_in(SQUARE, X, ONE), False)
        self.assertIs(holds_in(((), ()), X, read("x")), False)
        self.assertIs(holds_in(((), ()), X, ()), True)
        self.assertIs(holds_in(system(["x"]), XY, read("x''*y - 3*x'")), True)

    def test_sums_of_multiples_of_rates(self):
        rng = rng_of(2)
        told = [
            (SQUARE, X, [("x", 0), ("x", 1)], polys("x", "x'", "x*x' + 1")),
            (QUOTIENT, XY, [("x", 0), ("y", 0), ("y", 1)], polys("y", "y'", "y'' - 1")),
            (ROOTS, XY, [("x", 0), ("y", 1)], polys("x", "x*y", "y'*x - 2")),
            (system(["x' - y", "y' + x"], ["x"]), (("x", "y"),), [("x", 0), ("y", 0), ("y", 1)], polys("x", "y", "x*y - 1")),
        ]
        for case, ranking, letters, reduced in told:
            for _ in range(15):
                f = ()
                for p in case[0]:
                    for j, q in enumerate(rates(p, rng.randint(0, 2))):
                        f = plus(f, times(q, random_polynomial(rng, letters, 1, rng.randint(0, 2))))
                self.assertIs(holds_in(case, ranking, f), True)
                self.assertIs(holds_in(case, ranking, plus(f, rng.choice(reduced))), False)

    def test_errors(self):
        for value in NO_POLYNOMIALS:
            with self.assertRaises(BadPolynomial):
                holds_in(SQUARE, X, value)
        for text in ("y", "x'' - y*x"):
            with self.assertRaises(BadRanking):
                holds_in(SQUARE, X, read(text))

    def test_each_function_stands_in_its_file(self):
        for name in "is_case part_below obligations is_shown_simple holds_in free_names".split():
            self.assertEqual(getattr(simple, name).__module__, "ratesay.simple")


if __name__ == "__main__":
    unittest.main()
