"""Point 11: contents, greatest common divisors, square-free parts."""

import itertools
import unittest

from ratesay import collecting, commons, packing
from ratesay.errors import BadDivisor
from ratesay.polynomials import (
    alike,
    as_number,
    coefficients,
    common_divisor,
    degree,
    is_polynomial,
    letters_of,
    number,
    partial,
    power,
    primitive,
    quotient,
    scaled,
    square_free,
    square_free_by,
    times,
)
from ratesay.texts import read, text_of
from tests.helpers import LETTERS, polys, random_fraction, random_polynomial, rng_of

X, Y = ("x", 0), ("y", 0)
ONE = (((), (1, 1)),)


def dense(rng, letters, degree_at_most, most, whole=False):
    """A polynomial with all monomials up to a degree."""
    found = []
    for exponents in itertools.product(range(degree_at_most + 1), repeat=len(letters)):
        if sum(exponents) <= degree_at_most:
            monomial = tuple((v, e) for v, e in sorted(zip(letters, exponents)) if e)
            found.append((monomial, random_fraction(rng, most, whole)))
    return tuple(sorted(found))


class PrimitiveTest(unittest.TestCase):
    def test_told(self):
        self.assertEqual(primitive(()), ((0, 1), ()))
        self.assertEqual(primitive(number((-6, 5))), ((-6, 5), ONE))
        self.assertEqual(primitive(ONE), ((1, 1), ONE))
        self.assertEqual(primitive(read("4*x - 6*y")), ((-2, 1), read("-2*x + 3*y")))
        self.assertEqual(primitive(read("1/2*x + 2/3*y")), ((1, 6), read("3*x + 4*y")))
        # The last pair, not the highest one: x*y comes before x^2.
        self.assertEqual(primitive(read("x*y - x^2")), ((-1, 1), read("x^2 - x*y")))

    def test_random(self):
        rng = rng_of(1)
        for _ in range(200):
            p = random_polynomial(rng, LETTERS, 4, rng.randint(1, 8), rng.choice([5, 10 ** 200]))
            content, found = primitive(p)
            self.assertTrue(is_polynomial(found))
            self.assertEqual(scaled(found, content), p)
            self.assertTrue(all(d == 1 for _, (_, d) in found))
            self.assertGreater(found[-1][1][0], 0)
            self.assertEqual(primitive(found), ((1, 1), found))


class CommonDivisorTest(unittest.TestCase):
    def test_told(self):
        self.assertEqual(common_divisor(read("x^2 - y^2"), read("x^2 + 2*x*y + y^2")), read("x + y"))

    def test_zero_and_numbers(self):
        self.assertEqual(common_divisor((), ()), ())
        self.assertEqual(common_divisor((), read("2*x - 4*y")), read("-x + 2*y"))
        self.assertEqual(common_divisor(read("-1/3*x"), ()), read("x"))
        self.assertEqual(common_divisor(number((5, 3)), ()), ONE)
        self.assertEqual(common_divisor(number((5, 3)), number((10, 1))), ONE)
        self.assertEqual(common_divisor(number((6, 1)), read("6*x")), ONE)

    def test_letters_of_one_only(self):
        self.assertEqual(common_divisor(read("x*y + y"), read("y^2*z")), read("y"))
        self.assertEqual(common_divisor(read("(x + 1)*(y + 2)"), read("(y + 2)*(z - 1)")), read("y + 2"))
        self.assertEqual(common_divisor(read("x"), read("y")), ONE)
        self.assertEqual(common_divisor(read("x^3*y"), read("x^2*y^5")), read("x^2*y"))

    def test_planted(self):
        rng = rng_of(2)
        for letters, most_degree in ((LETTERS[:2], 6), (LETTERS[1:3], 6), (LETTERS[:3], 4), (LETTERS[:1], 6)):
            for _ in range(60):
                low = rng.randint(0, most_degree)
                g = random_polynomial(rng, letters, low, rng.randint(1, 6))
                p = times(g, random_polynomial(rng, letters, most_degree - low, rng.randint(1, 8), 99))
                q = times(g, random_polynomial(rng, letters, most_degree - low, rng.randint(1, 8), 99))
                found = common_divisor(p, q)
                self.check_common(found, p, q)
                self.assertIsNotNone(quotient(found, g))

    def check_common(self, found, p, q):
        self.assertEqual(primitive(found)[1], found)
        first, second = quotient(p, found), quotient(q, found)
        self.assertIsNotNone(first)
        self.assertIsNotNone(second)
        self.assertEqual(common_divisor(first, second), ONE)
        self.assertEqual(common_divisor(q, p), found)

    def test_dense_planted(self):
        rng = rng_of(3)
        for letters, top in ((LETTERS[:2], 6), (LETTERS[:3], 4)):
            for low in range(top):
                g = dense(rng, letters, low, 9, True)
                p = times(g, dense(rng, letters, top - low, 30))
                q = times(g, dense(rng, letters, top - low, 30))
                self.assertEqual(common_divisor(p, q), primitive(g)[1])

    def test_greatest_numbers(self):
        rng = rng_of(4)
        for letters, top in ((LETTERS[:2], 6), (LETTERS[:3], 4)):
            p, q = dense(rng, letters, top, 9999), dense(rng, letters, top, 9999)
            self.assertEqual(common_divisor(p, q), ONE)
            self.assertEqual(common_divisor(p, p), primitive(p)[1])
            self.assertEqual(square_free(p), primitive(p)[1])

    def test_hard_values(self):
        # Values of these have great common divisors that the polynomials lack.
        p, q = read("x*(x + 1)*(x + 2)*(x + 3)*(x + 4)*(x + 5)"), read("(x + 6)*(x + 7)*(x + 8)*(x + 9)*(x + 10)*(x + 11)")
        self.assertEqual(common_divisor(p, q), ONE)
        self.assertEqual(common_divisor(times(p, read("y - 1")), times(q, read("2 - 2*y"))), read("y - 1"))
        self.assertEqual(common_divisor(read("x^6 - 1"), read("x^4 - 1")), read("x^2 - 1"))
        self.assertEqual(common_divisor(read("x^6 - y^6"), read("x^4 - y^4")), read("y^2 - x^2"))

    def test_unlucky_values(self):
        # The first values that are tried have a common divisor that is not that of the polynomials.
        for p, q, told in (
            ("x^2 + x^3 - x^4 - 2*x^5 - x^6", "-1 - x - x^3 - x^4 - x^5 - x^6", "1 + x"),
            ("1 + x + x^2 + x^3 + x^4 + x^5", "-1 - 2*x - x^2 + x^3 + x^4 + x^5 + x^6", "1 + x"),
            ("-x - 2*x^2 - 2*x^3 - x^4 - x^5 - x^6", "x^3 - 2*x^5 - x^6", "x + x^2"),
            ("x + x^2*y^2 + x^3*y + y", "-x*y^2 + x*y^3 + x^2*y + x^3 + x^3*y^2 + x^4*y - y^3 + y^4", "x + y"),
            ("x*y - x^2*y^2 - x^3*y + y^2", "x*y^3 + x^2*y^2 - x^2*y^4 - x^3*y^3 - x^5*y - x^6", "x + y"),
        ):
            self.assertEqual(common_divisor(read(p), read(q)), read(told))

    def test_remainders_tell_the_same(self):
        rng = rng_of(5)
        checked = 0
        for _ in range(150):
            letters = LETTERS[:rng.randint(1, 3)]
            g = random_polynomial(rng, letters, 2, 3)
            p = times(g, random_polynomial(rng, letters, 2, 4))
            q = times(g, random_polynomial(rng, letters, 2, 4))
            frame = packing.Frame(sorted(letters), 1 << 20)
            a, b = collecting.integers_of(frame, p), collecting.integers_of(frame, q)
            low, a, b = commons.without_monomials(frame, a, b)
            if len(a) < 2 or len(b) < 2:
                continue
            first = commons.fields_of(frame, list(a.items()))
            second = commons.fields_of(frame, list(b.items()))
            for field in range(len(letters)):
                if first[field] and second[field]:
                    table = commons.by_remainders(frame, a, b, field)
                    shifted = {key + low: n for key, n in table.items()}
                    found = primitive(packing.from_integers(frame, shifted, 1))[1]
                    self.assertEqual(found, common_divisor(p, q))
                    checked += 1
        self.assertGreater(checked, 50)


class SquareFreeTest(unittest.TestCase):
    def test_told(self):
        self.assertEqual(square_free(read("4*x^2*y - 4*x^3")), read("x^2 - x*y"))

    def test_zero_and_numbers(self):
        self.assertEqual(square_free(()), ())
        self.assertEqual(square_free(number((-8, 3))), ONE)

    def test_by_letter(self):
        p = read("-3*(x - y)^2*(x + 1)*y^3*(z + 1)^2")
        self.assertEqual(square_free_by(p, X), primitive(read("(x - y)*(x + 1)"))[1])
        self.assertEqual(square_free_by(p, Y), primitive(read("(x - y)*y"))[1])
        self.assertEqual(square_free_by(p, ("z", 0)), read("z + 1"))
        self.assertEqual(square_free(p), primitive(read("(x - y)*(x + 1)*y*(z + 1)"))[1])

    def test_by_letter_bad(self):
        for p in polys("0", "1", "y", "x'"):
            with self.assertRaises(BadDivisor):
                square_free_by(p, X)

    def test_planted(self):
        rng = rng_of(6)
        for letters, top in ((LETTERS[:2], 6), (LETTERS[:3], 4)):
            for _ in range(60):
                f = random_polynomial(rng, letters, 1, 3)
                g = random_polynomial(rng, letters, 1, 3)
                e = rng.randint(1, top - 1)
                p = scaled(times(power(f, e), power(g, rng.randint(0, top - e))), random_fraction(rng))
                found = square_free(p)
                self.check_square_free(found, p)
                for v in letters_of(p):
                    by = square_free_by(p, v)
                    self.assertEqual(primitive(by)[1], by)
                    rest = quotient(found, by)
                    self.assertIsNotNone(rest)
                    self.assertEqual(degree(rest, v), 0)
                    content = ()
                    for c in coefficients(by, v):
                        content = common_divisor(content, c)
                    self.assertEqual(content, ONE)

    def check_square_free(self, found, p):
        self.assertEqual(primitive(found)[1], found)
        self.assertIsNotNone(quotient(p, found))
        common = found
        for v in letters_of(found):
            common = common_divisor(common, partial(found, v))
        self.assertIsNotNone(as_number(common))
        # Each irreducible factor of p divides what was found.
        rest = p
        for _ in range(6):
            rest = quotient(rest, common_divisor(rest, found))
        self.assertIsNotNone(as_number(rest))

    def test_dense(self):
        rng = rng_of(7)
        for letters, top, e in ((LETTERS[:2], 2, 3), (LETTERS[:2], 3, 2), (LETTERS[:3], 2, 2)):
            f = dense(rng, letters, top, 9)
            found = square_free(power(f, e))
            self.assertTrue(alike(found, f))
            self.assertEqual(text_of(found), text_of(primitive(f)[1]))
            self.assertEqual(square_free_by(power(f, e), X), found)


if __name__ == "__main__":
    unittest.main()
