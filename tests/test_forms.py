"""Points 2 and 3: the forms of letters, monomials and polynomials."""

import unittest

from ratesay.polynomials import is_letter, is_monomial, is_polynomial
from tests.helpers import NO_POLYNOMIALS

RIGHT_NAMES = ["a", "z", "x1", "abcdefgh", "a1234567", "x00", "z9z9z9z9"]
WRONG_NAMES = ["", "abcdefghi", "1x", "X", "xY", "x\n", "\nx", "x ", " x", "x_", "x'", "\u00e9", "x\u00e9", "\u0430",
               "x\u0661", "x\u00b2", "x\uff11", b"x", 1, None, True, ("x",), ["x"]]


class LettersTest(unittest.TestCase):
    def test_right(self):
        for name in RIGHT_NAMES:
            for k in (0, 1, 20, 21, 10 ** 30):
                self.assertIs(is_letter((name, k)), True)

    def test_wrong_names(self):
        for name in WRONG_NAMES:
            self.assertIs(is_letter((name, 0)), False, name)
            self.assertIs(is_monomial((((name, 0), 1),)), False, name)
            self.assertIs(is_polynomial((((((name, 0), 1),), (1, 1)),)), False, name)

    def test_wrong_orders(self):
        for k in (-1, True, False, None, "0", 0.0, (0,)):
            self.assertIs(is_letter(("x", k)), False, k)

    def test_wrong_kinds(self):
        for value in (None, True, 0, "x", "x0", ("x",), ("x", 0, 0), ["x", 0], (0, "x"), (("x", 0),), (), {}, {"x": 0}):
            self.assertIs(is_letter(value), False, value)


class MonomialsTest(unittest.TestCase):
    def test_right(self):
        x, y, x1 = ("x", 0), ("y", 0), ("x", 1)
        for value in ((), ((x, 1),), ((x, 1), (x1, 2)), ((x, 5), (x1, 1), (y, 10 ** 40)), ((("x", 2), 1), (("x", 10), 1))):
            self.assertIs(is_monomial(value), True, value)

    def test_many_letters_and_degrees_beyond_the_passed_ones(self):
        self.assertIs(is_monomial(tuple(((f"x{k:03}", 30), 200) for k in range(900))), True)

    def test_wrong(self):
        x, y = ("x", 0), ("y", 0)
        wrong = [None, True, "x", [], [(x, 1)], ((y, 1), (x, 1)), ((x, 1), (x, 1)), ((x, 1), (x, 2)), ((x, 0),), ((x, -1),)]
        wrong.extend([((x, True),), ((x, False),), ((x, 1.0),), ((x, None),), ([x, 1],), ((["x", 0], 1),), (x, 1), (x,)])
        wrong.extend([((x, 1, 1),), ((("x", 1), 1), (("x", 0), 1)), ((("x", 10), 1), (("x", 2), 1)), ((x, 1), None)])
        for value in wrong:
            self.assertIs(is_monomial(value), False, value)


class PolynomialsTest(unittest.TestCase):
    def test_right(self):
        one = ((), (1, 1))
        x, xx, xy = ((("x", 0), 1),), ((("x", 0), 2),), ((("x", 0), 1), (("y", 0), 1))
        for value in ((), (one,), (((), (-3, 7)),), (one, (x, (2, 1))), (one, (x, (1, 2)), (xy, (5, 3)), (xx, (-1, 1)))):
            self.assertIs(is_polynomial(value), True, value)

    def test_order_is_that_of_tuples(self):
        x, x5, x6, y = ("x", 0), 5, 6, ("y", 0)
        xy = ((x, 1), (y, 1))
        self.assertIs(is_polynomial(((((x, x5),), (1, 1)), (((y, 1),), (1, 1)))), True)
        self.assertIs(is_polynomial(((xy, (1, 1)), (((x, x6),), (1, 1)))), True)
        self.assertIs(is_polynomial(((((x, x6),), (1, 1)), (xy, (1, 1)))), False)

    def test_bounds_on_passed_ones_are_not_asked(self):
        many = tuple((((("x", k), 300),), (10 ** 500 + 1, 3)) for k in range(400))
        self.assertIs(is_polynomial(many), True)

    def test_wrong(self):
        for value in NO_POLYNOMIALS:
            self.assertIs(is_polynomial(value), False, value)

    def test_fractions(self):
        for f in ((1, 1), (-1, 1), (3, 2), (-3, 10 ** 200)):
            self.assertIs(is_polynomial((((), f),)), True, f)
        wrong = [(0, 1), (0, 2), (2, 4), (1, -1), (-1, -1), (1, 0), (True, 1), (1, True), (1,), (1, 1, 1), [1, 1], 1, None]
        for f in wrong + [("1", 1), (1, "1"), (1.0, 1), ((1, 1), 1)]:
            self.assertIs(is_polynomial((((), f),)), False, f)


if __name__ == "__main__":
    unittest.main()
