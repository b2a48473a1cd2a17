"""Points 75, 80, 82, 86 and multipliers: linear equations are solved exactly, however great the integers are."""

import unittest
from fractions import Fraction

from ratesay.kept import is_fraction_paper, is_kept, kept, kept_fraction, kept_set, kept_with
from ratesay.keeping import is_kept_paper
from ratesay.laws_of import is_laws_paper, laws_paper, laws_to
from ratesay.linear import TARGET, Echelon, common_fractions, eliminated, is_kernel_vector, kernel, lifted, solution
from ratesay.errors import TooMany
from ratesay.polynomials import UNIT, number, plus, scaled, times
from ratesay.texts import read
from ratesay.timed import decide_zero, is_same, is_zero_paper, multipliers
from tests.helpers import rng_of

PRIMES = [2 ** 61 - 1, 2 ** 127 - 1, 2 ** 521 - 1, 1000000009]
ALL = PRIMES[0] * PRIMES[1] * PRIMES[3]
ZERO = (0, 1)


def rank_of(rows, count):
    """The rank over the fractions, by plain elimination."""
    left = [[Fraction(row.get(k, 0)) for k in range(count)] for row in rows]
    rank = 0
    for k in range(count):
        found = [row for row in left if row[k]]
        if found:
            rank += 1
            left = [[a - b * row[k] / found[0][k] for a, b in zip(row, found[0])] for row in left if row is not found[0]]
    return rank


def random_rows(rng, many, count, most):
    """Rows of integers, some of which hang on others."""
    rows = []
    for _ in range(many):
        if rows and rng.random() < 0.3:
            factor, other = rng.randint(-5, 5), rng.randint(1, 5)
            a, b = rng.choice(rows), rng.choice(rows)
            row = {k: factor * a.get(k, 0) + other * b.get(k, 0) for k in {**a, **b}}
        else:
            row = {k: rng.randint(-most, most) * rng.choice([1, 1, *PRIMES]) for k in range(count) if rng.random() < 0.6}
        rows.append({k: n for k, n in row.items() if n})
    return rows


class KernelTest(unittest.TestCase):
    def test_random_rows(self):
        rng = rng_of(70)
        for most in (3, 10 ** 6, 10 ** 60, 10 ** 300):
            for _ in range(12):
                count = rng.randint(1, 6)
                rows = random_rows(rng, rng.randint(0, 6), count, most)
                vectors = kernel(rows, count)
                self.assertEqual(len(vectors), count - rank_of(rows, count))
                for vector in vectors:
                    self.assertIs(is_kernel_vector(rows, vector), True)
                    self.assertEqual(vector[min(vector)], (1, 1))
                firsts = [min(vector) for vector in vectors]
                self.assertEqual(firsts, sorted(set(firsts)))
                for vector in vectors:
                    self.assertEqual([k for k in firsts if k in vector], [min(vector)])

    def test_great_solutions(self):
        rows = [{k: 3 ** (40 * k + 1) + 7 ** (j + 30) for k in range(5)} for j in range(4)]
        rows.append({k: rows[0][k] + ALL * rows[1][k] for k in range(5)})
        found = kernel(rows, 5)
        self.assertEqual(len(found), 5 - rank_of(rows, 5))
        self.assertIs(is_kernel_vector(rows, found[0]), True)

    def test_primes_that_tell_too_little(self):
        for n in (*PRIMES, ALL):
            self.assertEqual(kernel([{0: n}], 1), [])
            self.assertEqual(kernel([{0: 1, 1: 1}, {0: 1, 1: n + 1}], 2), [])
            self.assertEqual(kernel([{0: n, 1: 1}], 2), [{0: (1, 1), 1: (-n, 1)}])

    def test_digits(self):
        rows = [{0: 2, 1: ALL}, {0: 1, 1: 3}]
        found = lifted(rows, [0, 1], [1, 2], PRIMES[1])
        self.assertEqual([found[k] for k in (0, 1)], [(found[k][0], found[k][1]) for k in (0, 1)])
        for row, target in zip(rows, (1, 2)):
            self.assertEqual(sum(Fraction(*found[k]) * n for k, n in row.items()), target)
        m = PRIMES[1] ** 4
        a, b = 10 ** 30 + 57, 10 ** 31 + 33
        totals = {0: a * pow(b, -1, m) % m, 1: (-a * pow(3 * b, -1, m)) % m, 2: 5}
        self.assertEqual(common_fractions(totals, m), {0: (a, b), 1: (-a, 3 * b), 2: (5, 1)})
        echelon, taken = eliminated([{0: 1, TARGET: 1}, {0: 2, TARGET: 2}, {0: 3, TARGET: 4}, {1: 1}], 101)
        self.assertEqual((echelon.odd, taken), (2, [(0, 0), (3, 1)]))
        self.assertIsNone(Echelon(7).take({0: 7}))


class SolutionTest(unittest.TestCase):
    def right(self, rows, found):
        for row in rows:
            total = sum(Fraction(*found.get(k, (0, 1))) * n for k, n in row.items() if k != TARGET)
            self.assertEqual(total, row.get(TARGET, 0))

    def test_random_rows(self):
        rng = rng_of(71)
        for most in (3, 10 ** 6, 10 ** 60, 10 ** 300):
            for _ in range(20):
                count = rng.randint(1, 5)
                rows = random_rows(rng, rng.randint(1, 5), count, most)
                whole = []
                worths = [Fraction(rng.randint(-9, 9), rng.randint(1, 9)) for _ in range(count)]
                for row in rows:
                    target = sum(worths[k] * n for k, n in row.items())
                    scale = target.denominator
                    whole.append({**{k: n * scale for k, n in row.items()}, TARGET: target.numerator})
                self.right(whole, solution(whole))
                bent = [dict(row) for row in whole]
                bent[-1][TARGET] += rng.choice([1, *PRIMES, ALL])
                found = solution(bent)
                more = [{(k if k != TARGET else count): n for k, n in row.items()} for row in bent]
                if rank_of(more, count + 1) == rank_of(rows, count):
                    self.right(bent, found)
                else:
                    self.assertIsNone(found)

    def test_primes_that_tell_too_little(self):
        for n in (*PRIMES, ALL):
            self.assertEqual(solution([{0: n, TARGET: 1}]), {0: (1, n)})
            self.assertIsNone(solution([{0: n, TARGET: 1}, {0: n, TARGET: n + 1}]))
            self.assertIsNone(solution([{0: 1, 1: 1, TARGET: 1}, {0: 1, 1: 1, TARGET: n + 1}]))
            self.assertEqual(solution([{0: 1, 1: 1, TARGET: 1}, {0: 1, 1: n + 1, TARGET: 0}]), {0: (n + 1, n), 1: (-1, n)})
            self.assertIsNone(solution([{0: 2, 1: 1, TARGET: n}, {0: 2 * n, 1: n, TARGET: n * n + n}, {2: n, TARGET: 1}]))
            self.assertIsNone(solution([{TARGET: n}]))
        self.assertEqual(solution([]), {})


class MultipliersTest(unittest.TestCase):
    def test_great_integers(self):
        x, y = read("x"), read("y")
        for n in (*PRIMES, ALL):
            self.assertEqual(multipliers(x, (scaled(x, (n, 1)),), 0), (number((1, n)),))
            self.assertIsNone(multipliers(x, (plus(scaled(x, (n, 1)), y),), 0))
            rows = (plus(scaled(x, (n, 1)), y), plus(scaled(x, (n, 1)), scaled(y, (n + 1, 1))))
            found = multipliers(x, rows, 0)
            self.assertEqual(plus(times(found[0], rows[0]), times(found[1], rows[1])), x)
            self.assertIsNone(multipliers(plus(x, UNIT), rows, 2))
            found = multipliers(UNIT, (plus(x, scaled(UNIT, (n, 1))), x), 1)
            self.assertEqual(plus(times(found[0], plus(x, scaled(UNIT, (n, 1)))), times(found[1], x)), UNIT)
            self.assertIsNone(multipliers(UNIT, (plus(scaled(x, (n, 1)), y), y), 2))

    def test_what_hangs_on_it(self):
        for n in PRIMES[:2]:
            T = ((("x", read(f"{n}*y")), ("y", read(f"{n}*x"))), ((1, 1), (1, 1)))
            f = read("x - y")
            paper = decide_zero(T, f)
            self.assertEqual(paper[0], "zero")
            self.assertIs(is_zero_paper(T, f, paper), True)
            self.assertIs(is_same(T, read("x^2"), read("x*y")), True)
            self.assertIs(is_same(T, read("x"), read("2*y")), False)
            g = T[0]
            answer = kept_set(g, (read("x - y"), read(f"{n}*x + y")))
            self.assertEqual(answer[0], "kept")
            self.assertIs(is_kept_paper(g, (read("x - y"), read(f"{n}*x + y")), *answer[1:]), True)


class LawsTest(unittest.TestCase):
    def test_great_rates(self):
        for n in (*PRIMES, ALL):
            T = ((("x", read(str(n))),), (ZERO,))
            self.assertIs(is_laws_paper(T, 1, ("laws", (), None, 1)), True)
            self.assertIs(is_laws_paper(T, 1, ("laws", (), None, 0)), False)
            self.assertEqual(laws_to(T, 2), ())
            self.assertIs(is_laws_paper(T, 2, laws_paper(T, 2)), True)
            self.assertIs(is_laws_paper(T, 2, ("laws", (), None, 1)), False)
            T = ((("x", read(f"1/{n}")), ("y", read("1"))), (ZERO, ZERO))
            found = laws_paper(T, 1)
            self.assertEqual(found[1], (read(f"x - 1/{n}*y"),))
            self.assertIs(is_laws_paper(T, 1, found), True)
            self.assertIs(is_laws_paper(T, 1, ("laws", (), None, 60)), False)
            self.assertIs(is_laws_paper(T, 1, (*found[:3], 0)), False)

    def test_numbers_that_hide_a_law(self):
        for n in (*PRIMES[:4], ALL):
            half, whole = f"1/{2 * n}", f"1/{n}"
            g = (("u", UNIT), ("x", read(f"{half}*u^3 + {whole}*u")), ("y", read(f"{half}*u^3 + {whole}*u^2")),
                 ("z", read(f"{whole}*u^3 + {whole}*u^2 + {whole}*u")))
            T = (g, (ZERO, ZERO, ZERO, ZERO))
            self.assertIs(is_laws_paper(T, 1, ("laws", (), None, 20)), False)
            self.assertEqual(laws_to(T, 1), (read("x + y - z"),))
            self.assertIs(is_laws_paper(T, 1, laws_paper(T, 1)), True)


class KeptTest(unittest.TestCase):
    def test_great_denominators(self):
        for n in (*PRIMES[:4], ALL):
            half, whole = f"1/{2 * n}", f"1/{n}"
            g = (("x", read(f"{half}*y*z + {whole}*x*z")), ("y", read(f"{half}*y*z + {whole}*x*y")),
                 ("z", read(f"{whole}*y*z + {whole}*x*z + {whole}*x*y")))
            try:
                found = kept_fraction(g, 1)
                self.assertEqual(found[0], "some")
                self.assertIs(is_fraction_paper(g, 1, found), True)
            except TooMany:
                self.assertGreater(n, 1)
            for c in ((0, 1, 4), (1, 2, 3), (5, -2, 7)):
                self.assertIs(is_fraction_paper(g, 1, ("none", tuple((k, 1) for k in c))), False)
            self.assertIn(read("x + y - z"), kept(g, 1))

    def test_points(self):
        for n in (*PRIMES, ALL):
            g = (("x", read(f"{n}*y")), ("y", read("x")))
            self.assertIs(is_fraction_paper(g, 1, ("none", ((1, 1), ZERO))), True)
            self.assertIs(is_fraction_paper(g, 1, ("none", (ZERO, ZERO))), False)
            self.assertIs(is_fraction_paper(g, 1, ("none", ((n, 1), (1, n)))), True)
            found = kept_fraction(g, 1)
            self.assertIs(is_fraction_paper(g, 1, found), True)
            self.assertEqual(found[0], "none")

    def test_great_bases(self):
        names = ("a", "b", "c")
        g = []
        for k, name in enumerate(names):
            worths = [Fraction(10 ** 199 + 7 * k + 3 * j, 10 ** 198 + 9 * j + 11 * k + 1) for j in range(2)]
            rows = [((((other, 0), 1),), (f.numerator, f.denominator)) for other, f in zip(names, worths)]
            g.append((name, tuple(rows)))
        g = tuple(g)
        first = kept(g, 1)
        self.assertEqual(len(first), 2)
        for n in (2, 4):
            for base in (kept(g, n), kept_with(g, (), n)):
                self.assertEqual(len(base), n + 1)
                for p in base:
                    self.assertIs(is_kept(g, p), True)
                self.assertEqual(base[-2:], first)


if __name__ == "__main__":
    unittest.main()
