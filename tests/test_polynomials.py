"""Points 6, 8, 9, 10: polynomials as functions, one letter, exact division, pseudo-division."""

import unittest

from ratesay.errors import BadDivisor, TooGreat
from ratesay.polynomials import (
    alike,
    as_number,
    coefficients,
    degree,
    is_polynomial,
    joined,
    less,
    letter,
    letters_of,
    names_of,
    number,
    partial,
    plus,
    power,
    pseudo,
    put,
    quotient,
    scaled,
    times,
)
from ratesay.texts import read, text_of
from tests.helpers import LETTERS, polys, random_fraction, random_point, random_polynomial, rng_of, value

X, Y, XX = ("x", 0), ("y", 0), ("x", 1)
ONE = (((), (1, 1)),)


def letters_sum(count):
    """A polynomial with so many pairs."""
    return tuple((((("b", k), 1),), (1, 1)) for k in range(count))


class FunctionsTest(unittest.TestCase):
    def test_number_and_letter(self):
        self.assertEqual(number((0, 1)), ())
        self.assertEqual(number((-3, 7)), (((), (-3, 7)),))
        self.assertEqual(letter("x", 0), ((((X, 1),), (1, 1)),))
        self.assertEqual(letter("abcdefgh", 20), ((((("abcdefgh", 20), 1),), (1, 1)),))

    def test_as_number(self):
        self.assertEqual(as_number(()), (0, 1))
        self.assertEqual(as_number(number((5, 3))), (5, 3))
        self.assertIsNone(as_number(letter("x", 0)))
        self.assertIsNone(as_number(read("x + 1")))
        self.assertIsNone(as_number(read("3*x")))

    def test_letters_and_names(self):
        p = read("y*x'' + x[10]*b + y - 2")
        self.assertEqual(letters_of(p), (("b", 0), ("x", 2), ("x", 10), ("y", 0)))
        self.assertEqual(names_of(p), ("b", "x", "y"))
        self.assertEqual((letters_of(()), names_of(ONE)), ((), ()))

    def test_to_the_letter(self):
        p = ((((X, 1),), (1, 2)), (((Y, 1),), (1, 1)))
        q = ((((X, 1),), (-1, 2)), (((Y, 1),), (1, 3)))
        self.assertEqual(plus(p, q), ((((Y, 1),), (4, 3)),))
        self.assertEqual(less(p, p), ())
        self.assertEqual(less((), p), ((((X, 1),), (-1, 2)), (((Y, 1),), (-1, 1))))
        product = ((((X, 1), (Y, 1)), (-1, 3)), (((X, 2),), (-1, 4)), (((Y, 2),), (1, 3)))
        self.assertEqual(times(p, q), product)
        self.assertEqual(scaled(p, (-4, 3)), ((((X, 1),), (-2, 3)), (((Y, 1),), (-4, 3))))
        self.assertEqual(scaled(p, (0, 1)), ())
        self.assertEqual((times(p, ()), times((), p), plus((), p), plus(p, ())), ((), (), p, p))

    def test_order_of_products(self):
        # x^5 comes before y, x^6 after x*y.
        self.assertEqual(times(letter("x", 0), read("x^5 + y")), ((((X, 1), (Y, 1)), (1, 1)), (((X, 6),), (1, 1))))

    def test_random_sums_products_powers(self):
        rng = rng_of(1)
        for _ in range(250):
            most, whole = rng.choice([3, 9, 10 ** 40, 10 ** 200]), rng.random() < 0.4
            p = random_polynomial(rng, LETTERS, 4, rng.randint(0, 6), most, whole)
            q = random_polynomial(rng, LETTERS, 4, rng.randint(0, 6), most, whole)
            at = random_point(rng, LETTERS)
            f = random_fraction(rng, most)
            e = rng.randint(0, 3)
            cases = [
                (plus(p, q), value(p, at) + value(q, at)),
                (less(p, q), value(p, at) - value(q, at)),
                (times(p, q), value(p, at) * value(q, at)),
                (scaled(p, f), value(p, at) * value(number(f), at)),
                (power(p, e), value(p, at) ** e),
            ]
            for found, worth in cases:
                self.assertTrue(is_polynomial(found))
                self.assertEqual(value(found, at), worth)

    def test_power(self):
        for p in polys("0", "1", "-2/3", "x", "-x*y'^2", "x + 1"):
            self.assertEqual(power(p, 0), ONE)
            self.assertEqual(power(p, 1), p)
        self.assertEqual(power((), 60), ())
        self.assertEqual(power(read("2*x^2*y'"), 60), (((((X, 120), (("y", 1), 60))), (2 ** 60, 1)),))
        self.assertEqual(power(number((-3, 2)), 59), (((), (-3 ** 59, 2 ** 59)),))
        self.assertEqual(text_of(power(read("x + y"), 3)), "3*x*y^2 + 3*x^2*y + x^3 + y^3")
        self.assertEqual(len(power(read("x + 1"), 15)), 16)

    def test_power_bound(self):
        self.assertEqual(len(power(letters_sum(200), 2)), 20100)
        self.assertEqual(len(power(letters_sum(34), 3)), 34 * 35 * 36 // 6)
        for p, e in ((letters_sum(201), 2), (letters_sum(35), 3), (letters_sum(2), 16), (letters_sum(40001), 1)):
            with self.assertRaises(TooGreat) as caught:
                power(p, e)
            self.assertEqual(caught.exception.what, "power")
        self.assertEqual(len(power(letters_sum(40000), 1)), 40000)
        self.assertEqual(power(letters_sum(40001), 0), ONE)
        self.assertEqual(len(power(letters_sum(2), 15)), 16)

    def test_put(self):
        p = read("x*y - x'^2 + 2")
        self.assertEqual(put(p, ()), p)
        self.assertEqual(put(p, ((X, read("y")), (Y, read("x")))), p)
        self.assertEqual(text_of(put(p, ((X, read("y + 1")), (XX, read("x"))))), "2 - x^2 + y + y^2")
        self.assertEqual(put(p, ((X, ()), (XX, ()))), number((2, 1)))
        self.assertEqual(put(p, ((("z", 0), read("x")),)), p)
        self.assertEqual(put((), ((X, read("y")),)), ())
        self.assertEqual(put(read("x - y"), ((X, read("y")),)), ())

    def test_put_random(self):
        rng = rng_of(2)
        for _ in range(150):
            p = random_polynomial(rng, LETTERS, 4, rng.randint(0, 6))
            rows = tuple((v, random_polynomial(rng, LETTERS, 2, rng.randint(0, 3))) for v in rng.sample(LETTERS, 3))
            at = random_point(rng, LETTERS)
            inner = dict(at)
            inner.update({v: value(q, at) for v, q in rows})
            found = put(p, rows)
            self.assertTrue(is_polynomial(found))
            self.assertEqual(value(found, at), value(p, inner))

    def test_put_bound(self):
        # 200 * 200 products for the square, one each for further pairs.
        row = ((X, letters_sum(200)),)
        self.assertEqual(len(put(read("x^2"), row)), 20100)
        for text in ("x^2 + 1", "x^2 + y", "x^2*y + z"):
            with self.assertRaises(TooGreat) as caught:
                put(read(text), row)
            self.assertEqual(caught.exception.what, "put")
        self.assertEqual(len(put(read("x^2"), ((X, letters_sum(200)), (Y, ())))), 20100)
        two = ((X, letters_sum(200)), (Y, read("c + d")))
        self.assertEqual(len(put(read("x*y"), two)), 400)
        with self.assertRaises(TooGreat):
            put(read("x*y^8"), two)
        self.assertEqual(put(read("x^2*y"), ((X, letters_sum(300)), (Y, ()))), ())
        self.assertEqual(put(read("x^12"), ((X, letter("y", 0)),)), power(letter("y", 0), 12))

    def test_alike(self):
        p = read("x - 2/3*y")
        for f in ((1, 1), (-1, 1), (7, 5), (-9, 10 ** 50)):
            self.assertIs(alike(p, scaled(p, f)), True)
        self.assertIs(alike((), ()), True)
        for q in polys("0", "1", "x", "x + 2/3*y", "x - y", "x - 2/3*z", "x - 2/3*y + 1"):
            self.assertIs(alike(p, q), False)
            self.assertIs(alike(q, p), False)
        self.assertIs(alike(ONE, number((-5, 3))), True)
        self.assertIs(alike(ONE, ()), False)


class OneLetterTest(unittest.TestCase):
    def test_degree(self):
        p = read("x^3*y + y^2 - 1")
        self.assertEqual([degree(p, v) for v in (X, Y, ("z", 0), XX)], [3, 2, 0, 0])
        self.assertEqual((degree((), X), degree(ONE, X)), (-1, 0))

    def test_coefficients(self):
        self.assertEqual(coefficients(read("x^3*y + y^2 - 1 + 2*x*z"), X), polys("y^2 - 1", "2*z", "0", "y"))
        self.assertEqual(coefficients((), X), ())
        self.assertEqual(coefficients(read("y"), X), (read("y"),))

    def test_coefficients_are_in_order(self):
        rng = rng_of(3)
        for _ in range(200):
            p = random_polynomial(rng, LETTERS, 5, 8)
            for v in LETTERS:
                parts = coefficients(p, v)
                self.assertTrue(all(is_polynomial(c) and degree(c, v) < 1 for c in parts))
                self.assertEqual(joined(parts, v), p)
                self.assertEqual(len(parts) - 1, degree(p, v))
                self.assertTrue(not parts or parts[-1])

    def test_joined(self):
        self.assertEqual(joined((), X), ())
        self.assertEqual(joined(((), ()), X), ())
        self.assertEqual(joined(polys("y", "0", "1", "0", "0"), X), read("y + x^2"))
        self.assertEqual(joined(polys("0", "y + x'"), X), read("x*y + x*x'"))

    def test_partial(self):
        p = read("x^3*y - 1/2*x*x' + y")
        self.assertEqual(partial(p, X), read("3*x^2*y - 1/2*x'"))
        self.assertEqual(partial(p, XX), read("-1/2*x"))
        self.assertEqual((partial(p, ("z", 0)), partial((), X), partial(ONE, X)), ((), (), ()))


class DivisionTest(unittest.TestCase):
    def test_exact(self):
        rng = rng_of(4)
        for _ in range(300):
            most = rng.choice([5, 99, 10 ** 60])
            p = random_polynomial(rng, LETTERS, 4, rng.randint(0, 6), most)
            q = random_polynomial(rng, LETTERS, 4, rng.randint(1, 6), most)
            product = times(p, q)
            self.assertEqual(quotient(product, q), p)
            other = plus(product, random_polynomial(rng, LETTERS, 3, 1))
            found = quotient(other, q)
            if found is not None:
                self.assertEqual(times(found, q), other)

    def test_nothing_divides(self):
        for p, q in (("x", "y"), ("1", "x"), ("x^2 + 1", "x + 1"), ("x", "x^2"), ("x*y + 1", "x"), ("x^12 + y^12", "x - y")):
            self.assertIsNone(quotient(read(p), read(q)))

    def test_numbers_and_zero(self):
        self.assertEqual(quotient(read("x + 1"), read("2/3")), read("3/2*x + 3/2"))
        self.assertEqual(quotient((), read("x")), ())
        self.assertEqual(quotient(read("x^2 - 1/4"), read("-2*x + 1")), read("-1/2*x - 1/4"))
        for p in polys("0", "1", "x"):
            with self.assertRaises(BadDivisor):
                quotient(p, ())

    def test_pseudo_examples(self):
        p = read("y*x - 1")
        self.assertEqual(pseudo(read("y*x"), p, X), (0, ONE, ONE))
        self.assertEqual(pseudo(read("x^2"), p, X), (2, read("y*x + 1"), ONE))
        self.assertEqual(pseudo(read("x"), read("2*x - 1"), X), (0, read("1/2"), read("1/2")))

    def test_pseudo_more(self):
        self.assertEqual(pseudo((), read("y*x"), X), (0, (), ()))
        self.assertEqual(pseudo(read("z"), read("y*x"), X), (0, (), read("z")))
        self.assertEqual(pseudo(read("x^3"), read("y*x + 1"), X), (3, read("y^2*x^2 - y*x + 1"), read("-1")))
        # The factor that one step brings goes out again.
        self.assertEqual(pseudo(read("y*x^2 + x"), read("y*x + 1"), X), (0, read("x"), ()))
        self.assertEqual(pseudo(read("(y*x + 1)*(x + z)"), read("y*x + 1"), X), (0, read("x + z"), ()))

    def test_pseudo_has_the_least_k(self):
        rng = rng_of(5)
        letters = LETTERS[:3]
        seen = set()
        for _ in range(400):
            g = random_polynomial(rng, letters, 4, rng.randint(0, 5))
            p = random_polynomial(rng, letters, 3, rng.randint(1, 4))
            if rng.random() < 0.4:
                g = plus(times(g, p), random_polynomial(rng, letters[1:], 2, 1))
            if degree(p, X) < 1:
                with self.assertRaises(BadDivisor):
                    pseudo(g, p, X)
                continue
            k, q, r = pseudo(g, p, X)
            head = coefficients(p, X)[-1]
            self.assertEqual(times(power(head, k), g), plus(times(q, p), r))
            self.assertLess(degree(r, X), degree(p, X))
            if k:
                self.assertTrue(quotient(q, head) is None or quotient(r, head) is None)
            seen.add(k)
        self.assertTrue(seen >= {0, 1, 2})

    def test_pseudo_bad_divisor(self):
        for p in polys("0", "1", "y", "x'"):
            with self.assertRaises(BadDivisor):
                pseudo(read("x"), p, X)


if __name__ == "__main__":
    unittest.main()
