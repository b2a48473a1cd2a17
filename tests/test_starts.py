"""Points 40, 42, 44: starts, values at them, and starts at which a polynomial is not 0."""

import unittest

from ratesay.errors import BadCase, BadPolynomial, BadRanking, BadStart
from ratesay.finding import cases_of
from ratesay.polynomials import letter, letters_of, number, power, put, scaled, times
from ratesay.rates import rate, rates
from ratesay.simple import holds_in
from ratesay.starts import is_start, start_of, value_at
from ratesay.texts import read
from ratesay.towers import is_inverse, rest_of
from tests import kinds
from tests.helpers import ANYTHING, NO_POLYNOMIALS, polys, rng_of, system
from tests.kinds import polynomial_of, question
from tests.test_towers import NO_TOWERS, tower

X = (("x",),)
XY = (("x", "y"),)
R = letter("root", 0)
ONE = number((1, 1))
SQUARE = system(["x'^2 - 4*x"], ["x"])
TWO = tower("a^2 - 4")
START = (TWO, ((("x", 0), ONE), (("x", 1), R), (("x", 2), number((2, 1)))), (scaled(R, (1, 8)),), (ONE,))


def rows(*pairs):
    """The values of a start: pairs (letter, text)."""
    return tuple((v, read(text)) for v, text in pairs)


def explicit_value(p, start):
    """The value of a polynomial by putting in."""
    table = tuple((v, u) for v, u in start[1] if v in letters_of(p))
    assert len(table) == len(letters_of(p))
    return rest_of(start[0], put(p, table))


class IsStartTest(unittest.TestCase):
    def test_right(self):
        self.assertIs(is_start(SQUARE, X, START), True)
        for many in (2, 3):
            self.assertIs(is_start(SQUARE, X, (TWO, START[1][:many], *START[2:])), True)
        self.assertIs(is_start(SQUARE, X, (TWO, (*START[1], (("x", 3), ())), *START[2:])), True)
        self.assertIs(is_start(((), ()), (), ((), (), (), ())), True)
        self.assertIs(is_start(((), ()), X, ((), rows((("x", 0), "7")), (), ())), True)
        self.assertIs(is_start(((), polys("x", "x'")), X, ((), rows((("x", 0), "2"), (("x", 1), "-1/3")), (),
                                                          polys("1/2", "-3"))), True)
        # A case need not be simple.
        self.assertIs(is_start(system(["x'^2 - 4*x"]), X, (TWO, START[1], START[2], ())), True)

    def test_each_name_its_own_number_of_values(self):
        case = system(["x - y''"])
        told = (("x",), ("y",))
        values = [(("x", 0), "3"), (("y", 0), "1"), (("y", 1), "0"), (("y", 2), "3")]
        self.assertIs(is_start(case, told, ((), rows(*values), polys("1"), ())), True)
        self.assertIs(is_start(case, told, ((), rows(*values, (("y", 3), "9")), polys("1"), ())), True)
        more = rows(values[0], (("x", 1), "9"), *values[1:], (("y", 3), "9"))
        self.assertIs(is_start(case, told, ((), more, polys("1"), ())), True)
        lacking = rows(values[0], (("x", 1), "9"), *values[1:])
        self.assertIs(is_start(case, told, ((), lacking, polys("1"), ())), False)
        wrong = rows(values[0], (("x", 1), "8"), *values[1:], (("y", 3), "9"))
        self.assertIs(is_start(case, told, ((), wrong, polys("1"), ())), False)

    def test_each_condition_broken(self):
        _, values, separants, turns = START
        wrong = [(bad, values, separants, turns) for bad in NO_TOWERS]
        wrong.extend([
            (tower("a^2 - 3"), values, separants, turns),
            ((), values, separants, turns),
            (TWO, values[1:], separants, turns),
            (TWO, (values[0], values[2]), separants, turns),
            (TWO, values[:1], separants, turns),
            (TWO, (values[1], values[0]), separants, turns),
            (TWO, (*values, values[2]), separants, turns),
            (TWO, (*values, (("y", 0), ())), separants, turns),
            (TWO, list(values), separants, turns),
            (TWO, (*values[:2], (("x", 2), number((3, 1)))), separants, turns),
            (TWO, (*values, (("x", 3), ONE)), separants, turns),
            (TWO, ((("x", 0), number((4, 1))), *values[1:]), separants, turns),
            (TWO, (values[0], (("x", 1), power(R, 2)), values[2]), separants, turns),
            (TWO, (values[0], (("x", 1), read("2*x")), values[2]), separants, turns),
            (TWO, (values[0], [("x", 1), R], values[2]), separants, turns),
            (TWO, (values[0], (["x", 1], R), values[2]), separants, turns),
            (TWO, (values[0], (("x", 1), None), values[2]), separants, turns),
            (TWO, values, (R,), turns),
            (TWO, values, (), turns),
            (TWO, values, (*separants, ONE), turns),
            (TWO, values, list(separants), turns),
            (TWO, values, (None,), turns),
            (TWO, values, separants, (number((2, 1)),)),
            (TWO, values, separants, ()),
            (TWO, values, separants, (ONE, ONE)),
            (TWO, values, separants, None),
            (TWO, values, separants),
            (TWO, values, separants, turns, ()),
            [TWO, values, separants, turns],
        ])
        for bad in [*wrong, *ANYTHING]:
            self.assertIs(is_start(SQUARE, X, bad), False, bad)
        self.assertIs(is_start(SQUARE, XY, START), False)
        self.assertIs(is_start(((), ()), XY, ((), rows((("x", 0), "1")), (), ())), False)

    def test_bounds(self):
        values = [(("x", k), "1") for k in range(26)]
        case = system(["x' - x"])
        self.assertIs(is_start(case, X, ((), rows(*values[:25]), polys("1"), ())), True)
        self.assertIs(is_start(case, X, ((), rows(*values), polys("1"), ())), False)
        self.assertIs(is_start(((), ()), X, ((), rows(*values[:25]), (), ())), True)
        self.assertIs(is_start(((), ()), X, ((), rows(*values), (), ())), False)
        six = tower("a - 1", "b - 1", "c - 1", "d - 1", "e - 1", "f - 1")
        seven = (*six, letter("root", 6))
        point = rows((("x", 0), "1"))
        self.assertIs(is_start(((), ()), X, (six, point, (), ())), True)
        self.assertIs(is_start(((), ()), X, (seven, point, (), ())), False)
        for degrees, answer in (((8, 8), True), ((8, 9), False), ((4, 4, 4), True), ((64,), True), ((65,), False)):
            told = []
            for i, d in enumerate(degrees):
                told.append(put(power(read("x"), d), ((("x", 0), letter("root", i)),)))
            self.assertIs(is_start(((), ()), X, (tuple(told), point, (), ())), answer)

    def test_errors(self):
        for call in (lambda case, told: is_start(case, told, None), lambda case, told: value_at(case, told, None, None),
                     lambda case, told: start_of(case, told, None)):
            for bad in (None, (), polys("x"), (polys("1"), ()), (polys("x"), [])):
                self.assertRaises(BadCase, call, bad, None)
            self.assertRaises(BadRanking, call, SQUARE, None)
            self.assertRaises(BadRanking, call, SQUARE, (("y",),))
            self.assertRaises(BadCase, call, system(["x", "x'"]), X)
        self.assertRaises(BadStart, value_at, SQUARE, X, START[:3], None)
        for bad in [*NO_POLYNOMIALS, read("y")]:
            self.assertRaises(BadPolynomial, value_at, SQUARE, X, START, bad)
        for bad in NO_POLYNOMIALS:
            self.assertRaises(BadPolynomial, start_of, SQUARE, X, bad)
        self.assertRaises(BadRanking, start_of, SQUARE, X, read("y"))


class ValueTest(unittest.TestCase):
    def test_values(self):
        for text, answer in (("x'", R), ("x'^2", number((4, 1))), ("x''", number((2, 1))), ("x[3]", ()), ("x[20]", ()),
                             ("x*x'*x'' - 1", read("0")), ("0", ()), ("5/3", number((5, 3)))):
            if text == "x*x'*x'' - 1":
                answer = (*number((-1, 1)), *scaled(R, (2, 1)))
            self.assertEqual(value_at(SQUARE, X, START, read(text)), answer, text)
            self.assertEqual(value_at(SQUARE, X, (TWO, START[1][:2], *START[2:]), read(text)), answer, text)

    def test_letters_without_values(self):
        case = system(["x - y''"])
        told = (("x",), ("y",))
        start = ((), rows((("x", 0), "3"), (("y", 0), "1"), (("y", 1), "0"), (("y", 2), "3")), polys("1"), ())
        for text, answer in (("x'", "0"), ("y[3]", "0"), ("x*y + x''", "3")):
            self.assertEqual(value_at(case, told, start, read(text)), read(answer))
        case = system(["x' - x^2"])
        start = ((), rows((("x", 0), "2")), polys("1"), ())
        self.assertRaises(BadStart, value_at, case, X, start, read("x"))
        start = ((), rows((("x", 0), "2"), (("x", 1), "4")), polys("1"), ())
        for k, worth in ((2, 16), (3, 96), (4, 768)):
            self.assertEqual(value_at(case, X, start, letter("x", k)), number((worth, 1)))

    def test_rates_of_members_are_zero(self):
        rng = rng_of(40)
        for kind in ("F1", "F2", "F3"):
            for _ in range(15):
                pair, told = question(rng, kind)
                for case in cases_of(pair, told)[0][:2]:
                    start, _ = start_of(case, told, ONE)
                    for a in case[0]:
                        for p in rates(a, 2):
                            self.assertEqual(value_at(case, told, start, p), ())


class StartOfTest(unittest.TestCase):
    def check(self, case, told, f):
        found = start_of(case, told, f)
        self.assertEqual(found is None, holds_in(case, told, f))
        if found is None:
            return
        start, turn = found
        self.assertIs(is_start(case, told, start), True)
        self.assertIs(is_inverse(start[0], explicit_value(f, start), turn), True)
        self.assertEqual(value_at(case, told, start, f), explicit_value(f, start))

    def test_examples(self):
        self.check(SQUARE, X, read("x'' - 2"))
        self.check(SQUARE, X, read("x''"))
        self.check(SQUARE, X, ())
        self.check(SQUARE, X, ONE)
        self.check(SQUARE, X, read("x[3]"))
        self.check(((), ()), (), ONE)
        self.check(((), ()), XY, read("x'*y''*(x - 1)*(y' - 2)"))
        self.check(system(["x^2 - 2", "y^2 - x"]), (("y", "x"),), read("y^3 - 5"))
        self.check(system(["x^2 - x"]), X, read("x - 1"))
        self.check(system(["x^2 - x"]), X, read("x"))
        self.check(system(["y^2 - 3*y + 2", "x^2 - y*x"]), (("x",), ("y",)), read("x*(y - 1)"))
        self.check(system(["x' - y", "y' - x*y"], ["x*y - 1", "y"]), XY, read("x''*y'' - 2*x"))

    def test_light_kinds(self):
        for kind in kinds.KINDS:
            rng = rng_of("start" + kind)
            for _ in range(25):
                pair, told = question(rng, kind)
                names = sorted({name for block in told for name in block})
                for case in cases_of(pair, told)[0][:2]:
                    self.check(case, told, polynomial_of(rng, pair, names if kind != "F5" else ()))
                    if case[0] and kind != "F5":
                        self.check(case, told, rate(case[0][0]))
                        self.check(case, told, times(case[0][-1], read("x + 1")))


if __name__ == "__main__":
    unittest.main()
