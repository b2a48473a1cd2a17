"""Point 12: rates."""

import unittest

from ratesay.errors import BadNumber, BadPolynomial
from ratesay.polynomials import is_polynomial, letter, letters_of, number, partial, plus, times
from ratesay.rates import rate, rates
from ratesay.texts import read, text_of
from tests.helpers import LETTERS, NO_POLYNOMIALS, polys, random_polynomial, rng_of

NO_COUNTS = [-1, 13, 10 ** 30, True, False, None, "1", (1,), [1], 1.0]


def slow_rate(p):
    """The rate by its definition: the sum of the partial derivatives times the rates of the letters."""
    found = ()
    for name, k in letters_of(p):
        found = plus(found, times(partial(p, (name, k)), letter(name, k + 1)))
    return found


class RateTest(unittest.TestCase):
    def test_to_the_letter(self):
        cases = {
            "0": "0",
            "7/3": "0",
            "x": "x'",
            "x[20]": "0",
            "x^3": "3*x^2*x'",
            "x*y": "x*y' + x'*y",
            "1/2*x'^2 - 4*x": "-4*x' + x'*x''",
            "x*x'": "x*x'' + x'^2",
            "-y^2*x": "-2*x*y*y' - x'*y^2",
        }
        for text, told in cases.items():
            if text != "x[20]":
                self.assertEqual(text_of(rate(read(text))), told)
        self.assertEqual(rate(letter("x", 20)), letter("x", 21))
        self.assertEqual(rate(letter("x", 2)), ((((("x", 3), 1),), (1, 1)),))
        self.assertEqual(rate(number((5, 2))), ())

    def test_terms_that_go_out(self):
        # The rates of x*y' and of x'*y have parts in common.
        self.assertEqual(text_of(rate(read("x*y' - x'*y"))), "x*y'' - x''*y")
        self.assertEqual(text_of(rates(read("x*y' - x'*y"), 2)[2]), "x*y[3] + x'*y'' - x''*y' - x[3]*y")

    def test_random(self):
        rng = rng_of(1)
        for _ in range(200):
            most = rng.choice([9, 10 ** 150])
            p = random_polynomial(rng, LETTERS, 4, rng.randint(0, 6), most)
            q = random_polynomial(rng, LETTERS, 3, rng.randint(0, 4), most)
            found = rate(p)
            self.assertTrue(is_polynomial(found))
            self.assertEqual(found, slow_rate(p))
            self.assertEqual(rate(plus(p, q)), plus(rate(p), rate(q)))
            self.assertEqual(rate(times(p, q)), plus(times(rate(p), q), times(p, rate(q))))

    def test_rates(self):
        p = read("x^2 - y'")
        self.assertEqual(rates(p, 0), (p,))
        self.assertEqual(rates(p, 2), polys("x^2 - y'", "2*x*x' - y''", "2*x*x'' + 2*x'^2 - y[3]"))
        found = rates(p, 12)
        self.assertEqual(len(found), 13)
        for k in range(12):
            self.assertEqual(found[k + 1], rate(found[k]))
        self.assertEqual(rates((), 12), ((),) * 13)
        self.assertEqual(rates(number((1, 2)), 3), (number((1, 2)), (), (), ()))
        self.assertEqual(rates(letter("x", 20), 12)[12], letter("x", 32))

    def test_bad_polynomial(self):
        for value in NO_POLYNOMIALS:
            with self.assertRaises(BadPolynomial):
                rate(value)
            for n in (0, 12, 13, None):
                with self.assertRaises(BadPolynomial):
                    rates(value, n)

    def test_bad_number(self):
        for p in polys("0", "x"):
            for n in NO_COUNTS:
                with self.assertRaises(BadNumber) as caught:
                    rates(p, n)
                self.assertIs(caught.exception.number, n)

    def test_many_pairs(self):
        found = rates(read("a*b*c*d*e*f*g*h*i*j*k*l"), 7)
        self.assertEqual([len(p) for p in found], [1, 12, 78, 364, 1365, 4368, 12376, 31824])


if __name__ == "__main__":
    unittest.main()
