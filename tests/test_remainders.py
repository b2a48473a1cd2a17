"""Points 16 to 18: divisors, steps, partial and whole rests, identities."""

import unittest

from ratesay import remainders
from ratesay.errors import BadEquations, BadPolynomial, BadRanking, BadSteps, TooGreat, TooMany
from ratesay.polynomials import as_number, letters_of, number, plus, power, quotient, times
from ratesay.rankings import initial, leader, separant
from ratesay.rates import rates
from ratesay.remainders import follow, identity, is_partly_reduced, is_reduced, partial_rest, whole_rest
from ratesay.texts import read
from tests.helpers import NO_POLYNOMIALS, polys, random_polynomial, rng_of
from tests.test_rankings import NO_RANKINGS

ONE = number((1, 1))
FUNCTIONS = [is_partly_reduced, is_reduced, partial_rest, whole_rest]
WITH_STEPS = [follow, identity]


def called(function, f, equations, ranking, steps=()):
    """The function with steps if it takes them."""
    if function in WITH_STEPS:
        return function(f, equations, ranking, steps)
    return function(f, equations, ranking)


def linear(count):
    """A polynomial with so many pairs, of the letters of b."""
    return tuple((((("b", k), 1),), (1, 1)) for k in range(count))


def many(count):
    """A polynomial with so many pairs, of two letters."""
    return tuple(sorted((((("c", 0), k // 100 + 1), (("d", 0), k % 100 + 1)), (1, 1)) for k in range(count)))


class ReducedTest(unittest.TestCase):
    def test_partly_reduced(self):
        equations, ranking = polys("x'^2 - 4*x", "y - x"), (("y",), ("x",))
        for text, told in (("x'", True), ("x'^5*y^3", True), ("x''", False), ("y'", False), ("x + y*x[7]", False), ("0", True),
                           ("7", True), ("z''", True)):
            self.assertIs(is_partly_reduced(read(text), equations, (("z",),) + ranking), told, text)

    def test_reduced(self):
        equations, ranking = polys("x'^2 - 4*x", "y - x"), (("z",), ("y",), ("x",))
        for text, told in (("x'", True), ("x'*x^9*z[3]", True), ("x'^2", False), ("y", False), ("x''", False), ("0", True), ("3", True)):
            self.assertIs(is_reduced(read(text), equations, ranking), told, text)
        self.assertIs(is_reduced(read("x''"), (), ranking), True)
        self.assertIs(is_partly_reduced(read("x''"), (), ranking), True)

    def test_errors(self):
        good, ranking = polys("x' - y"), (("x",), ("y",))
        for function in FUNCTIONS + WITH_STEPS:
            for value in NO_POLYNOMIALS:
                with self.assertRaises(BadPolynomial):
                    called(function, value, None, None, None)
            for value in [None, True, 0, "x", [], list(good), read("x"), (None,)] + [(bad,) for bad in NO_POLYNOMIALS]:
                with self.assertRaises(BadEquations):
                    called(function, read("x"), value, None, None)
            for value in NO_RANKINGS + [(("x",),), (("y",),), ()]:
                with self.assertRaises(BadRanking):
                    called(function, read("x"), good, value, None)
            with self.assertRaises(BadRanking):
                called(function, read("z"), good, ranking, None)
            # A missing name goes ahead of equations that are no divisors.
            with self.assertRaises(BadRanking):
                called(function, read("z"), polys("1"), ranking, None)

    def test_no_divisors(self):
        ranking = (("x", "y"),)
        for texts in (("1",), ("0",), ("x", "3"), ("x", "x'"), ("x^2", "x"), ("x", "x"), ("x", "y + x'"), ("x'' + y'", "y^2")):
            for function in FUNCTIONS + WITH_STEPS:
                with self.assertRaises(BadEquations):
                    called(function, read("x"), polys(*texts), ranking, None)
        # A rate of a leader of the own member, below the leader of another one.
        with self.assertRaises(BadEquations):
            whole_rest(read("x"), polys("x'' - y'", "y"), ranking)
        self.assertEqual(whole_rest(read("x"), polys("x'' - y", "y"), ranking)[1], read("x"))


class StepsTest(unittest.TestCase):
    def test_examples(self):
        equations, ranking = polys("x^2 - x", "x*z + 1"), (("z",), ("x",))
        f = read("(x - 1)*z")
        first = ((1, 0, 1, read("x - 1")),)
        self.assertEqual(follow(f, equations, ranking, first), read("1 - x"))
        second = ((1, 0, 2, read("x^2 - x")), (0, 0, 0, read("-1")))
        self.assertEqual(follow(f, equations, ranking, second[:1]), read("x - x^2"))
        self.assertEqual(follow(f, equations, ranking, second), ())
        told = identity(f, equations, ranking, second)
        self.assertEqual(told, ((("initial", 1, 2),), ((0, 0, read("-1")), (1, 0, read("x^2 - x")))))

    def test_identity_example(self):
        ranking, equations = (("y",), ("x",)), polys("x*y - 1", "x'")
        steps = ((0, 1, 1, ONE), (1, 0, 0, read("-y")))
        self.assertEqual(follow(read("y'"), equations, ranking, steps[:1]), read("-x'*y"))
        self.assertEqual(follow(read("y'"), equations, ranking, steps), ())
        told = identity(read("y'"), equations, ranking, steps)
        self.assertEqual(told, ((("separant", 0, 1),), ((0, 1, ONE), (1, 0, read("-y")))))

    def test_no_steps(self):
        equations, ranking = polys("x' - x"), (("x",),)
        for f in polys("0", "3", "x''"):
            self.assertEqual(follow(f, equations, ranking, ()), f)
            self.assertEqual(identity(f, equations, ranking, ()), ((), ()))
        self.assertEqual(follow(read("x"), (), (("x",),), ()), read("x"))

    def test_multiplier_0(self):
        equations, ranking = polys("y*x - 1"), (("x",), ("y",))
        self.assertEqual(follow(read("x"), equations, ranking, ((0, 0, 3, ()),)), read("y^3*x"))
        told = identity(read("x"), equations, ranking, ((0, 0, 3, ()), (0, 2, 1, ())))
        self.assertEqual(told, ((("initial", 0, 3), ("separant", 0, 1)), ()))

    def test_factors_add_up_and_later_ones_multiply(self):
        equations, ranking = polys("y*x^2 - 1", "3*y'"), (("x",), ("y",))
        steps = (
            (0, 0, 1, read("z")),
            (0, 1, 2, read("y")),
            (1, 0, 1, read("1")),
            (0, 0, 0, read("-2")),
            (0, 1, 1, read("x")),
            (1, 3, 0, ()),
            (0, 2, 0, read("x''")),
        )
        ranking = (("x",), ("y",), ("z",))
        factors, rows = identity(read("x'' - z"), equations, ranking, steps)
        self.assertEqual(factors, (("initial", 0, 1), ("initial", 1, 1), ("separant", 0, 3)))
        self.assertEqual([row[:2] for row in rows], [(0, 0), (0, 1), (0, 2), (1, 0)])
        s = read("2*x*y")
        self.assertEqual(rows[0][2], plus(read("3*z*(2*x*y)^3"), times(read("-2"), s)))
        self.assertEqual(rows[1][2], plus(read("3*y*2*x*y"), read("x")))
        self.assertEqual(rows[2][2], read("x''"))
        self.assertEqual(rows[3][2], s)
        self.check_identity(read("x'' - z"), equations, ranking, steps)

    def check_identity(self, f, equations, ranking, steps):
        rest = follow(f, equations, ranking, steps)
        factors, rows = identity(f, equations, ranking, steps)
        left = f
        for kind, i, e in factors:
            head = initial if kind == "initial" else separant
            left = times(left, power(head(equations[i], ranking), e))
        right = rest
        for i, j, m in rows:
            self.assertTrue(m)
            right = plus(right, times(m, rates(equations[i], j)[j]))
        self.assertEqual(left, right)
        self.assertEqual(list(factors), sorted(factors))
        self.assertEqual(list(rows), sorted(rows))
        self.assertEqual(len({row[:2] for row in rows}), len(rows))
        self.assertEqual(len({row[:2] for row in factors}), len(factors))

    def test_multipliers_that_go_out(self):
        equations, ranking = polys("x' - x"), (("x",),)
        steps = ((0, 1, 0, read("x")), (0, 1, 0, read("-x")))
        self.assertEqual(identity(read("x"), equations, ranking, steps), ((), ()))
        self.assertEqual(follow(read("x"), equations, ranking, steps), read("x"))

    def test_random_steps(self):
        rng = rng_of(1)
        equations, ranking = polys("y*x'^2 - x", "(y + 1)*y' - 1"), (("x",), ("y",))
        letters = [("x", 0), ("x", 1), ("y", 0), ("y", 1)]
        for _ in range(60):
            steps = tuple(
                (rng.randint(0, 1), rng.randint(0, 2), rng.randint(0, 2), random_polynomial(rng, letters, 1, rng.randint(0, 2)))
                for _ in range(rng.randint(0, 3))
            )
            self.check_identity(random_polynomial(rng, letters, 2, 3), equations, ranking, steps)

    def test_bad_steps(self):
        equations, ranking, f = polys("y*x' - 1", "y'"), (("x",), ("y",)), read("x")
        good = (0, 1, 1, ONE)
        wrong = [None, True, 0, "x", [], [good], good, (list(good),), (good[:3],), (good + (0,),), (None,), ((),)]
        for at, values in enumerate(([-1, 2, True, None, "0"], [-1, 21, True, False, None], [-1, 21, True, None], NO_POLYNOMIALS)):
            for value in values:
                wrong.append((good[:at] + (value,) + good[at + 1:],))
                wrong.append((good, good[:at] + (value,) + good[at + 1:]))
        for steps in wrong:
            for function in WITH_STEPS:
                with self.assertRaises(BadSteps):
                    function(f, equations, ranking, steps)

    def test_e_and_j_at_20(self):
        equations, ranking = polys("y*x - 1", "y'"), (("x",), ("y",))
        self.assertEqual(follow(read("x"), equations, ranking, ((0, 0, 20, ()),)), plus(times(power(read("y"), 20), read("x")), ()))
        self.assertEqual(follow((), equations, ranking, ((1, 20, 0, ONE),)), ((((("y", 21), 1),), (-1, 1)),))
        self.assertEqual(identity((), equations, ranking, ((1, 20, 20, ONE),)), ((("separant", 1, 20),), ((1, 20, ONE),)))
        for step in ((0, 0, 21, ()), (1, 21, 0, ONE)):
            for function in WITH_STEPS:
                with self.assertRaises(BadSteps):
                    function((), equations, ranking, (step,))

    def great(self, what, function, *arguments):
        with self.assertRaises(TooGreat) as caught:
            function(*arguments)
        self.assertEqual(caught.exception.what, what)

    def test_too_great_rates(self):
        # The rates of a product of m letters have C(m + j - 1, j) terms.
        p = read("a*b*c*d*e*f*g*h*i*j*k*l")
        ranking = (("z",), tuple("abcdefghijkl"))
        equations = (plus(p, read("z")),)
        self.assertEqual(follow((), equations, ranking, ((0, 4, 0, ()),)), ())
        self.assertEqual(len(follow((), equations, ranking, ((0, 4, 0, ONE),))), 1366)
        for m in ((), ONE):
            self.great("rest", follow, (), equations, ranking, ((0, 5, 0, m),))
            self.great("rest", identity, (), equations, ranking, ((0, 5, 0, m),))
        self.great("rest", follow, (), equations, ranking, ((0, 12, 0, ()),))

    def test_rates_of_3000_and_3001_terms(self):
        # Each pair of many has a rate of 2 pairs, each letter one of 1.
        ranking = (("z",), ("b", "c", "d"))
        exact = (plus(plus(many(1499), read("b")), read("z")),)
        beyond = (plus(many(1500), read("z")),)
        self.assertEqual(len(rates(exact[0], 1)[1]), 3000)
        self.assertEqual(len(rates(beyond[0], 1)[1]), 3001)
        for m in ((), ONE):
            self.assertEqual(len(follow((), exact, ranking, ((0, 1, 0, m),))), 3000 * len(m))
            self.assertEqual(len(identity((), exact, ranking, ((0, 1, 0, m),))[1]), len(m))
            for function in WITH_STEPS:
                self.great("rest", function, (), beyond, ranking, ((0, 1, 0, m),))
        # The equation itself may have more.
        self.assertEqual(len(follow((), (plus(many(3500), read("z")),), ranking, ((0, 0, 0, ONE),))), 3501)
        # The first step with such a rate counts, ahead of later products that are too great.
        self.great("rest", follow, (), beyond, ranking, ((0, 0, 0, ONE), (0, 1, 0, ())))

    def test_too_great_rest(self):
        ranking = (("x",), ("b", "c", "d"), ("y",))
        head = linear(20)
        equations = (plus(times(head, read("x")), read("-1")),)
        # 20^2 * 500 is 200,000.
        f = many(500)
        self.assertTrue(follow(f, equations, ranking, ((0, 0, 2, ()),)))
        self.great("rest", follow, f, equations, ranking, ((0, 0, 2, ONE),))
        self.great("rest", follow, many(501), equations, ranking, ((0, 0, 2, ()),))
        self.great("rest", identity, f, equations, ranking, ((0, 0, 2, ONE),))
        # Without f no power of the head is asked, and 21 * 9523 is 199,983.
        self.assertEqual(follow((), equations, ranking, ((0, 0, 20, ()),)), ())
        self.assertTrue(follow((), equations, ranking, ((0, 0, 20, many(9523)),)))
        self.great("rest", follow, (), equations, ranking, ((0, 0, 20, many(9524)),))
        self.assertTrue(follow((), equations, ranking, ((0, 0, 20, many(9523)), (0, 0, 0, ()))))
        self.great("rest", follow, (), equations, ranking, ((0, 0, 0, many(9523)), (0, 0, 0, read("y"))))

    def test_too_great_identity(self):
        ranking = (("x",), ("b", "c", "d"))
        equations = (plus(times(linear(20), read("x")), read("-1")),)
        # The rest comes to be 0 again, the multipliers stay: 500 + 500 of them, times 20^2.
        m = many(500)
        less_m = tuple((monomial, (-n, d)) for monomial, (n, d) in m)
        f = times(m, equations[0])
        steps = ((0, 0, 0, m), (0, 0, 2, ()))
        factors, rows = identity(f, equations, ranking, steps)
        self.assertEqual((factors, rows[0][:2]), ((("initial", 0, 2),), (0, 0)))
        other = ((0, 0, 0, m + ((((("x", 0), 1),), (1, 1)),)), (0, 0, 0, ((((("x", 0), 1),), (-1, 1)),)), (0, 0, 2, ()))
        self.assertEqual(identity(f, equations, ranking, other)[1], rows)
        f1 = times(m + ((((("x", 0), 1),), (1, 1)),), equations[0])
        steps = ((0, 0, 0, m + ((((("x", 0), 1),), (1, 1)),)), (0, 0, 2, ()))
        self.assertEqual(follow(f1, equations, ranking, steps), ())
        self.great("identity", identity, f1, equations, ranking, steps)
        # Of several rows the terms are counted together; those of m at the step itself are not.
        away = ((0, 0, 0, m), (0, 0, 0, less_m), (0, 0, 20, ONE))
        self.assertEqual(identity((), equations, ranking, away)[1], ((0, 0, ONE),))
        self.great("identity", identity, f, equations, ranking, ((0, 0, 0, m), (0, 0, 20, ())))
        self.assertEqual(follow(f, equations, ranking, ((0, 0, 0, m), (0, 0, 20, ()))), ())


    def test_one_product_too_many(self):
        # 3 * 66,667 is 200,001.
        ranking = (("x",), ("z",), ("b", "c", "d"))
        equations = (times(linear(3), read("x")), read("z"))
        m = many(66667)
        self.great("rest", follow, m, equations, ranking, ((0, 0, 1, ()),))
        self.assertEqual(len(follow(m[1:], equations, ranking, ((0, 0, 1, ()),))), 3 * 66666)
        steps = ((1, 0, 0, m), (0, 0, 1, ()))
        f = times(m, read("z"))
        self.assertEqual(follow(f, equations, ranking, steps), ())
        self.great("identity", identity, f, equations, ranking, steps)


class RestsTest(unittest.TestCase):
    def check(self, f, equations, ranking):
        """Checks both rests; the whole one is returned."""
        steps, rest = partial_rest(f, equations, ranking)
        self.assertTrue(all(j >= 1 and e <= 1 for i, j, e, m in steps))
        self.assertEqual(follow(f, equations, ranking, steps), rest)
        self.assertIs(is_partly_reduced(rest, equations, ranking), True)
        steps, rest = whole_rest(f, equations, ranking)
        self.assertTrue(all(e <= 1 for i, j, e, m in steps))
        self.assertEqual(follow(f, equations, ranking, steps), rest)
        self.assertIs(is_reduced(rest, equations, ranking), True)
        self.assertIsInstance(steps, tuple)
        return rest

    def test_told_ones(self):
        equations, ranking = polys("x'^2 - 4*x"), (("x",),)
        self.assertEqual(self.check(read("x'' - 2"), equations, ranking), ())
        rest = self.check(read("x''"), equations, ranking)
        self.assertIsNotNone(quotient(rest, read("x'")))
        self.assertEqual(self.check(read("x"), equations, ranking), read("x"))
        self.assertEqual(partial_rest(read("x'^7"), equations, ranking), ((), read("x'^7")))
        self.assertEqual(self.check((), equations, ranking), ())
        self.assertEqual(self.check(read("x''"), (), ranking), read("x''"))

    def test_numbers_as_heads(self):
        equations, ranking = polys("2*x' - y", "y'' + 3*y"), (("x",), ("y",))
        self.assertEqual(self.check(read("x[3]"), equations, ranking), read("-3/2*y"))
        self.assertEqual(self.check(read("x''^2 - y"), equations, ranking), read("1/4*y'^2 - y"))
        steps, _ = whole_rest(read("x[3]"), equations, ranking)
        self.assertTrue(all(e == 0 for i, j, e, m in steps))

    def test_first_light_kind(self):
        """f of at most 4 terms, at most 2 members of at most 3 terms, all of degree at most 2."""
        rng = rng_of(2)
        rankings = [(("x", "y", "z"),), (("x",), ("y",), ("z",)), (("z", "y"), ("x",))]
        checked = 0
        while checked < 250:
            ranking = rng.choice(rankings)
            letters = [(name, k) for name in "xyz" for k in range(3)]
            equations = tuple(random_polynomial(rng, letters, 2, 3) for _ in range(rng.randint(1, 2)))
            leaders = [leader(p, ranking) for p in equations]
            if None in leaders or not self.are_divisors(equations, ranking):
                continue
            tops = {name: k + 1 for name, k in leaders}
            letters = [(name, k) for name in "xyz" for k in range(tops.get(name, 3) + 1)]
            self.check(random_polynomial(rng, letters, 2, 4), equations, ranking)
            checked += 1

    def test_second_light_kind(self):
        """All initials and separants numbers, at most 3 members of at most 4 terms, f of at most 6 terms."""
        rng = rng_of(3)
        rankings = [(("x", "y", "z"),), (("x",), ("y",), ("z",)), (("z", "y"), ("x",))]
        checked = 0
        while checked < 250:
            ranking = rng.choice(rankings)
            letters = [(name, k) for name in "xyz" for k in range(3)]
            equations = tuple(random_polynomial(rng, letters, 2, 4) for _ in range(rng.randint(1, 3)))
            leaders = [leader(p, ranking) for p in equations]
            if None in leaders or not self.are_divisors(equations, ranking):
                continue
            heads = [head(p, ranking) for p in equations for head in (initial, separant)]
            if None in [as_number(h) for h in heads]:
                continue
            degree = rng.randint(1, 2)
            above = 2 if degree == 1 else (1 if len(equations) < 3 else 0)
            tops = {name: k + above for name, k in leaders}
            letters = [(name, k) for name in "xyz" for k in range(tops.get(name, 3) + 1)]
            self.check(random_polynomial(rng, letters, degree, 6), equations, ranking)
            checked += 1

    def are_divisors(self, equations, ranking):
        """Whether equations are divisors, by the words of point 16."""
        leaders = [leader(p, ranking) for p in equations]
        if len({name for name, _ in leaders}) < len(leaders):
            return False
        for p in equations:
            for name, k in leaders:
                if any(v[0] == name and v[1] > k for v in letters_of(p)):
                    return False
        return True

    def test_great_orders(self):
        equations, ranking = polys("x' - x", "abcdefgh[20] - x"), (("abcdefgh",), ("x",))
        self.assertEqual(self.check(read("x[20]"), equations, ranking), read("x"))
        self.assertEqual(self.check(((((("abcdefgh", 30), 1),), (1, 1)),), equations, ranking), read("x"))
        self.assertEqual(self.check(read("x[20] - 3"), polys("x"), ranking), read("-3"))

    def test_what_follow_refuses_is_never_told(self):
        wide = plus(times(linear(20), read("x")), read("-1"))
        ranking = (("x",), ("b", "c", "d"))
        # The rest of x^12 + 1 is the head to the power 12, and 1.
        great = read("x^12 + 1")
        for f, equations in ((((((("x", 21), 1),), (1, 1)),), polys("x")), (great, (wide,)), (read("x[3]^6"), (wide,))):
            for rests in (partial_rest, whole_rest):
                try:
                    steps, rest = rests(f, equations, ranking)
                except TooMany:
                    continue
                self.assertEqual(follow(f, equations, ranking, steps), rest)
        with self.assertRaises(TooMany):
            whole_rest(great, (wide,), ranking)
        self.assertEqual(len(whole_rest(read("x^3 + 1"), (wide,), ranking)[1]), 1541)

    def test_each_function_stands_in_its_file(self):
        for name in "is_partly_reduced is_reduced partial_rest whole_rest follow identity".split():
            self.assertEqual(getattr(remainders, name).__module__, "ratesay.remainders")


if __name__ == "__main__":
    unittest.main()
