"""Polynomials at the sizes that may be passed: 60 pairs, the degree 12, orders to 20, integers of 200 digits."""

import unittest

from ratesay.polynomials import (
    alike,
    coefficients,
    is_polynomial,
    joined,
    less,
    letters_of,
    partial,
    plus,
    power,
    primitive,
    put,
    quotient,
    scaled,
    times,
)
from ratesay.rates import rate, rates
from ratesay.texts import read, text_of
from tests.helpers import random_fraction, random_point, rng_of, value

MOST = 10 ** 200 - 1


def great(rng, letters, lowest=0):
    """A polynomial with 60 pairs, or as many as the letters let."""
    table = {}
    for _ in range(400):
        exponents = {}
        for _ in range(rng.randint(lowest, 12)):
            v = rng.choice(letters)
            exponents[v] = exponents.get(v, 0) + 1
        if len(table) < 60:
            table[tuple(sorted(exponents.items()))] = random_fraction(rng, MOST)
    return tuple(sorted(table.items()))


def letter_rows(rng):
    """Rows of letters of several kinds: a great many, few, two."""
    names = ["abcdefg" + digit for digit in "01234567"]
    return [
        ([(name, k) for name in names for k in range(21)], 10),
        ([(name, 20) for name in names], 0),
        ([("zzzzzzzz", 19), ("zzzzzzzz", 20), ("a", 0)], 0),
        ([("x", 0), ("x", 1)], 0),
        ([("x", 20)], 0),
    ]


class SizesTest(unittest.TestCase):
    def test_sums_products_powers(self):
        rng = rng_of(1)
        for letters, lowest in letter_rows(rng):
            p, q = great(rng, letters, lowest), great(rng, letters, lowest)
            at = {v: n % 7 - 3 for v, n in zip(letters, range(1, 1000))}
            for found, worth in (
                (plus(p, q), value(p, at) + value(q, at)),
                (less(p, q), value(p, at) - value(q, at)),
                (times(p, q), value(p, at) * value(q, at)),
                (power(p, 2), value(p, at) ** 2),
                (scaled(p, (MOST, MOST - 1)), value(p, at) * MOST / (MOST - 1)),
            ):
                self.assertTrue(is_polynomial(found))
                self.assertEqual(value(found, at), worth)

    def test_powers_of_few_pairs(self):
        rng = rng_of(2)
        p = great(rng, [("abcdefgh", 20), ("b", 3)])
        self.assertEqual(power(p[:1], 60)[0][1], (p[0][1][0] ** 60, p[0][1][1] ** 60))
        self.assertEqual(len(power(p[2:4], 15)), 16)
        self.assertTrue(is_polynomial(power(p[:5], 6)))

    def test_exact_quotients(self):
        rng = rng_of(3)
        for letters, lowest in letter_rows(rng):
            p, q = great(rng, letters, lowest), great(rng, letters, lowest)
            product = times(p, q)
            self.assertEqual(quotient(product, q), p)
            self.assertIsNone(quotient(plus(product, read("unlike")), q))

    def test_contents_coefficients_derivatives(self):
        rng = rng_of(4)
        for letters, lowest in letter_rows(rng):
            p = great(rng, letters, lowest)
            content, found = primitive(p)
            self.assertEqual(scaled(found, content), p)
            self.assertTrue(alike(found, p))
            for v in letters_of(p)[:12]:
                parts = coefficients(p, v)
                self.assertEqual(joined(parts, v), p)
                derived = joined(tuple(scaled(c, (k, 1)) for k, c in enumerate(parts))[1:], v)
                self.assertEqual(partial(p, v), derived)

    def test_putting_in(self):
        rng = rng_of(5)
        letters = [("abcdefg" + digit, 20) for digit in "0123"]
        p = great(rng, letters)
        few = great(rng, letters)
        rows = ((letters[0], few[:1]), (letters[1], few[7:8]), (letters[2], few[3:4]), (letters[3], ()))
        at = random_point(rng, letters)
        inner = dict(at)
        inner.update({v: value(q, at) for v, q in rows})
        self.assertEqual(value(put(p, rows), at), value(p, inner))
        small = great(rng, letters)[:3]
        rows = ((letters[0], few[:2]), (letters[1], few[4:6]))
        inner = dict(at)
        inner.update({v: value(q, at) for v, q in rows})
        self.assertEqual(value(put(small, rows), at), value(small, inner))

    def test_rates(self):
        rng = rng_of(6)
        for letters, lowest in letter_rows(rng):
            p = great(rng, letters, lowest)
            found = rate(p)
            self.assertTrue(is_polynomial(found))
            self.assertEqual(rates(p, 1), (p, found))
            at = random_point(rng, letters_of(found))
            worth = sum(value(partial(p, (name, k)), at) * at[(name, k + 1)] for name, k in letters_of(p))
            self.assertEqual(value(found, at), worth)
        self.assertEqual(len(rates(great(rng, [("x", 20)]), 12)), 13)

    def test_texts(self):
        rng = rng_of(7)
        for letters, lowest in letter_rows(rng):
            p = great(rng, letters, lowest)[:7]
            text = text_of(p)
            if len(text) <= 4000:
                self.assertEqual(read(text), p)
            whole = text_of(great(rng, letters, lowest))
            self.assertGreater(len(whole), 4000)
        p = tuple(((((f"abcdef{k:02}", 20), 12),), (k + 1, 1)) for k in range(60))
        self.assertEqual(read(text_of(p)), p)


if __name__ == "__main__":
    unittest.main()
