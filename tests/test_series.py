"""Points 45 to 48: lengths, rates told by a start, judging rates, values along rows."""

import unittest
from fractions import Fraction
from math import factorial

from ratesay.errors import BadCase, BadNumber, BadPolynomial, BadRanking, BadRates, BadStart, BadTower, TooGreat
from ratesay.finding import cases_of
from ratesay.polynomials import as_number, less, letter, number, put, scaled, times
from ratesay.rates import rates
from ratesay.series import along, are_rates, lengths, rates_of, taylor
from ratesay.starts import start_of
from ratesay.texts import read
from ratesay.towers import rest_of
from tests.helpers import ANYTHING, NO_POLYNOMIALS, polys, rng_of, system
from tests.kinds import letters, polynomial, question
from tests.test_starts import ONE, R, SQUARE, START, TWO, rows
from tests.test_towers import NO_TOWERS

X = (("x",),)
XY = (("x",), ("y",))
SECOND = system(["x - y''"])
SECOND_START = ((), rows((("x", 0), "3"), (("y", 0), "1"), (("y", 1), "0"), (("y", 2), "3")), polys("1"), ())
FREE = (("y", polys("5")),)
ROWS = (("x", polys("3", "5", "0")), ("y", polys("1", "0", "3", "5", "0")))


def chain(o, c, k=0):
    """The case x^(o) = c x with a start, and the values that it tells."""
    worth = [Fraction(i + 1) for i in range(o)] or [Fraction(0)]
    for i in range(len(worth), 42):
        worth.append(c * worth[i - o] if o else Fraction(0))
    p = less(letter("x", o), scaled(letter("x", 0), (c, 1)))
    values = tuple((("x", i), number((worth[i].numerator, 1))) for i in range(max(o, k) + 1))
    separant = Fraction(1, 1 if o else 1 - c)
    return ((p,), ()), ((), values, (number((separant.numerator, separant.denominator)),), ()), worth


class LengthsTest(unittest.TestCase):
    def test_examples(self):
        self.assertEqual(lengths(SQUARE, X, START, 3), (("x", 3),))
        self.assertEqual(lengths(SQUARE, X, START, 0), (("x", 2),))
        self.assertEqual(lengths(SECOND, XY, SECOND_START, 2), (("x", 2), ("y", 4)))
        self.assertEqual(lengths(SECOND, XY, SECOND_START, 0), (("x", 0), ("y", 2)))
        self.assertEqual(lengths(((), ()), (), ((), (), (), ()), 24), ())
        self.assertEqual(lengths(((), ()), X, ((), rows((("x", 0), "1")), (), ()), 24), (("x", 24),))

    def test_several_names(self):
        case = system(["x - z[3]", "y - z''"])
        told = (("x",), ("y",), ("z",))
        start, _ = start_of(case, told, ONE)
        for n in range(4):
            found = dict(lengths(case, told, start, n))
            self.assertEqual((found["x"], found["y"]), (n, n))
            self.assertEqual(found["z"], found["x"] + 3)

    def test_too_great(self):
        case = system(["x - y[17]"])
        zeros = tuple((("y", k), ()) for k in range(18))
        for many, n, answer in ((0, 23, (("x", 23), ("y", 40))), (0, 24, None), (7, 23, (("x", 23), ("y", 40)))):
            values = tuple((("x", k), ()) for k in range(many + 1))
            start = ((), values + zeros + tuple((("y", k), ()) for k in range(18, 18 + many)), polys("1"), ())
            if answer:
                self.assertEqual(lengths(case, XY, start, n), answer)
                self.assertEqual([len(row) for _, row in rates_of(case, XY, start, (), n)], [24, 41])
            else:
                for call in (lambda s: lengths(case, XY, s, n), lambda s: rates_of(case, XY, s, (), n)):
                    with self.assertRaises(TooGreat) as caught:
                        call(start)
                    self.assertEqual(caught.exception.what, "orders")


class RatesTest(unittest.TestCase):
    def test_examples(self):
        found = rates_of(SQUARE, X, START, (), 3)
        self.assertEqual(found, (("x", (ONE, R, number((2, 1)), ())),))
        self.assertEqual(taylor(found[0][1]), (ONE, R, ONE, ()))
        self.assertEqual(rates_of(SECOND, XY, SECOND_START, FREE, 2), ROWS)
        self.assertIs(are_rates(SQUARE, X, START, (), found), True)
        self.assertIs(are_rates(SECOND, XY, SECOND_START, FREE, ROWS), True)
        self.assertEqual(rates_of(((), ()), (), ((), (), (), ()), (), 5), ())
        self.assertIs(are_rates(((), ()), (), ((), (), (), ()), (), ()), True)

    def test_free_rates(self):
        start = ((), rows((("x", 0), "7")), (), ())
        row = polys(*[str(k) for k in range(1, 41)])
        free = (("x", row),)
        self.assertEqual(rates_of(((), ()), X, start, free, 2), (("x", (number((7, 1)), *row[:2])),))
        self.assertEqual(rates_of(((), ()), X, start, (("x", row[:1]),), 3), (("x", polys("7", "1", "0", "0")),))
        for many in range(1, 42):
            told = (("x", (number((7, 1)), *row[:many - 1])),)
            self.assertIs(are_rates(((), ()), X, start, free, told), True)
        self.assertIs(are_rates(((), ()), X, start, free, (("x", polys("7", "1", "3")),)), False)
        self.assertIs(are_rates(((), ()), X, start, (), (("x", polys("7", "0", "0")),)), True)
        self.assertIs(are_rates(((), ()), X, start, (), (("x", polys("7", "0", "1")),)), False)
        self.assertIs(are_rates(((), ()), X, start, free, (("x", (number((7, 1)), *row, ONE)),)), False)

    def test_chains(self):
        for o in range(5):
            for c in (-3, 2):
                for k in (o, o + 3):
                    case, start, worth = chain(o, c, k)
                    for n in (0, 5, 24):
                        (name, row), = rates_of(case, X, start, (), n)
                        self.assertEqual([Fraction(*as_number(u)) for u in row], worth[:max(n, k) + 1])
                        self.assertIs(are_rates(case, X, start, (), ((name, row),)), True)

    def test_explicit_systems(self):
        # x' = y, y' = -x; and x' = x^2 with x(0) = 2.
        case = system(["x' - y", "y' + x"])
        values = rows((("x", 0), "0"), (("x", 1), "1"), (("y", 0), "1"), (("y", 1), "0"))
        found = dict(rates_of(case, (("x", "y"),), ((), values, polys("1", "1"), ()), (), 24))
        self.assertEqual(found["x"], polys(*["0", "1", "0", "-1"] * 6, "0"))
        self.assertEqual(found["y"], polys(*["1", "0", "-1", "0"] * 6, "1"))
        case = system(["x' - x^2"])
        start = ((), rows((("x", 0), "2"), (("x", 1), "4")), polys("1"), ())
        (_, row), = rates_of(case, X, start, (), 12)
        self.assertEqual(row, tuple(number((factorial(k) * 2 ** (k + 1), 1)) for k in range(13)))
        self.assertEqual(taylor(row), tuple(number((2 ** (k + 1), 1)) for k in range(13)))

    def test_rates_of_members_are_zero(self):
        rng = rng_of(47)
        for kind in ("F1", "F2", "F3"):
            for _ in range(25):
                pair, told = question(rng, kind)
                for case in cases_of(pair, told)[0][:2]:
                    start, _ = start_of(case, told, ONE)
                    found = rates_of(case, told, start, (), 5)
                    self.assertEqual([name for name, _ in found], sorted(name for block in told for name in block))
                    self.assertIs(are_rates(case, told, start, (), found), True)
                    table = tuple(((name, k), u) for name, row in found for k, u in enumerate(row))
                    for a in case[0]:
                        for p in rates(a, 2):
                            self.assertEqual(rest_of(start[0], put(p, table)), ())
                        self.assertEqual(along(a, start[0], found, 2), ((), (), ()))

    def test_rows_bent(self):
        (name, row), = rates_of(SQUARE, X, START, (), 4)
        wrong = [((name, row[:k]),) for k in range(3)]
        for k in range(len(row)):
            for other in (R, number((3, 1)), scaled(R, (2, 1))):
                if other != row[k]:
                    wrong.append(((name, (*row[:k], other, *row[k + 1:])),))
        wrong.extend([
            (), ((name, row), (name, row)), ((name, row), ("y", row)), (("y", row),), [(name, row)], ((name, list(row)),),
            ([name, row],), ((name, row, ()),), ((name, (*row[:4], times(R, R))),), ((name, (*row[:4], None)),), (name, row),
        ])
        for bad in [*wrong, *ANYTHING]:
            self.assertIs(are_rates(SQUARE, X, START, (), bad), False, bad)
        for many in (3, 4, 5):
            self.assertIs(are_rates(SQUARE, X, START, (), ((name, row[:many]),)), True)
        (_, x_row), (_, y_row) = ROWS
        for x_many, y_many, answer in ((3, 5, True), (3, 4, False), (2, 5, True), (2, 4, True), (1, 5, True), (0, 5, False),
                                       (1, 2, False)):
            told = (("x", x_row[:x_many]), ("y", y_row[:y_many]))
            self.assertIs(are_rates(SECOND, XY, SECOND_START, FREE, told), answer, told)
        self.assertIs(are_rates(SECOND, XY, SECOND_START, FREE, ROWS[::-1]), False)
        self.assertIs(are_rates(SECOND, XY, SECOND_START, (), ROWS), False)
        self.assertIs(are_rates(SECOND, XY, SECOND_START, FREE, (("x", (*x_row, ONE)), ("y", y_row))), False)
        more = (("x", (*x_row, ())), ("y", (*y_row, ())))
        self.assertIs(are_rates(SECOND, XY, SECOND_START, FREE, more), True)

    def test_errors(self):
        calls = (
            lambda case, told, start, free, n: rates_of(case, told, start, free, n),
            lambda case, told, start, free, n: are_rates(case, told, start, free, None),
            lambda case, told, start, free, n: lengths(case, told, start, n),
        )
        for call in calls:
            self.assertRaises(BadCase, call, None, None, None, None, None)
            self.assertRaises(BadCase, call, system(["x", "x'"]), X, None, None, None)
            self.assertRaises(BadRanking, call, SQUARE, None, None, None, None)
            self.assertRaises(BadRanking, call, SQUARE, (("y",),), None, None, None)
            for bad in (None, (), START[:3], (TWO, START[1][:1], *START[2:])):
                self.assertRaises(BadStart, call, SQUARE, X, bad, None, None)
        bad_free = [None, 0, "x", [], FREE[0], (("x", polys("5")),), (("z", polys("5")),), (("y", ()),), (("y", [ONE]),),
                    FREE + FREE, [*FREE], (["y", polys("5")],), (("y", (R,)),), (("y", (None,)),), (("y", (ONE,) * 41),),
                    (("y", polys("5"), ()),), (("y", ONE),)]
        for bad in bad_free:
            for call in calls[:2]:
                self.assertRaises(BadRates, call, SECOND, XY, SECOND_START, bad, None)
        self.assertEqual(len(rates_of(SECOND, XY, SECOND_START, (("y", (ONE,) * 40),), 1)), 2)
        for bad in (None, -1, 25, True, "1", (1,), [2]):
            for call in (calls[0], calls[2]):
                with self.assertRaises(BadNumber) as caught:
                    call(SECOND, XY, SECOND_START, FREE, bad)
                self.assertEqual(caught.exception.number, bad)


class AlongTest(unittest.TestCase):
    def test_values(self):
        self.assertEqual(along(read("x*y"), (), ROWS, 2), polys("3", "5", "9"))
        self.assertEqual(along(read("x"), (), ROWS, 2), ROWS[0][1])
        self.assertEqual(along(read("y''"), (), ROWS, 2), polys("3", "5", "0"))
        self.assertEqual(along(read("5"), (), ROWS, 24), polys("5", *["0"] * 24))
        self.assertEqual(along((), (), (), 3), ((), (), (), ()))
        told = (("x", (ONE, R, number((2, 1)), ())),)
        self.assertEqual(along(read("x'^2"), TWO, told, 2), (number((4, 1)), scaled(R, (4, 1)), number((8, 1))))

    def test_is_putting_in(self):
        rng = rng_of(45)
        for _ in range(25):
            told = tuple((name, tuple(polys(*[str(rng.randint(-5, 5)) for _ in range(6)]))) for name in "xy")
            p = polynomial(rng, letters("xy", [0, 1, 2]), 3, 4)
            table = tuple(((name, k), u) for name, row in told for k, u in enumerate(row))
            answer = tuple(rest_of((), put(q, table)) for q in rates(p, 3))
            self.assertEqual(along(p, (), told, 3), answer)

    def test_errors(self):
        for bad in NO_POLYNOMIALS:
            self.assertRaises(BadPolynomial, along, bad, None, None, None)
        for bad in NO_TOWERS:
            self.assertRaises(BadTower, along, read("x"), bad, None, None)
        for bad in [None, 0, [], ("x",), (("x", ()),), (("x", [ONE]),), (("X", (ONE,)),), ROWS[::-1], ROWS[:1] * 2,
                    (("x", (R,)),), (("x", (ONE,) * 42),), (("x", (None,)),), (["x", (ONE,)],)]:
            self.assertRaises(BadRates, along, read("x"), (), bad, None)
        self.assertEqual(along(read("x"), (), (("x", (ONE,) * 41),), 24), (ONE,) * 25)
        for bad in (None, -1, 25, True):
            self.assertRaises(BadNumber, along, read("z"), (), ROWS, bad)
        for text, n, right in (("x", 2, True), ("x", 3, False), ("x'", 1, True), ("x'", 2, False), ("z", 0, False),
                               ("x + y''", 2, True), ("x + y[3]", 2, False)):
            if right:
                self.assertEqual(len(along(read(text), (), ROWS, n)), n + 1)
            else:
                self.assertRaises(BadRates, along, read(text), (), ROWS, n)

    def test_taylor(self):
        self.assertEqual(taylor((ONE,) * 5), tuple(number((1, factorial(k))) for k in range(5)))
        self.assertEqual(taylor(polys("x", "x'", "y")), polys("x", "x'", "1/2*y"))
        self.assertEqual(len(taylor((ONE,) * 41)), 41)
        for bad in [None, (), [ONE], (ONE,) * 42, ONE, 5, *[(ONE, p) for p in NO_POLYNOMIALS]]:
            self.assertRaises(BadRates, taylor, bad)


if __name__ == "__main__":
    unittest.main()
