"""Points 87 to 90 as the heading ratesay/maps.py names them: maps, mixes, hidden systems."""

import unittest
from fractions import Fraction

from ratesay.errors import (
    BadFormula, BadMap, BadMix, BadPlanted, BadPolynomial, BadSystem, BoundName, NotBound, TooGreat,
)
from ratesay.formulas import decide
from ratesay.maps import carried, carried_formula, carried_system, hidden, inverse, led, mixed, moved
from ratesay.polynomials import UNIT, letters_of, names_of, plus, power, scaled, times
from ratesay.rates import rate, rates
from ratesay.starts import follows
from ratesay.texts import read
from tests.helpers import ANYTHING, NO_POLYNOMIALS, random_polynomial, rng_of, system

SHIFT = (("put", "x", read("y'")),)
BAD_STEPS = [
    *[v for v in ANYTHING], ("put", "x"), ("put", "x", read("y"), 0), ["put", "x", read("y")], ("Put", "x", read("y")), ("put", "X", read("y")),
    ("put", 1, read("y")), ("put", "x", read("x")), ("put", "x", read("y + x''")), ("put", "x", None), ("put", "x", 1), ("scale", "x", (0, 1)),
    ("scale", "x", (2, 2)), ("scale", "x", 2), ("scale", "x", read("2")), ("scale", "", (1, 2)), ("exchange", "x", "x"), ("exchange", "x", "Y"),
    ("exchange", "x", None), ("exchange", ("x", 0), "y"), ("put", "x", [()]), (("put",), "x", ()), (None, "x", ()), ("scale", "x", (True, 1)),
]
BAD_MIXES = [
    *[v for v in ANYTHING], ("add", 0, 1, 0), ("add", 0, 1, 0, UNIT, 0), ["add", 0, 1, 0, UNIT], ("Add", 0, 1, 0, UNIT), ("add", 0, 0, 0, UNIT),
    ("add", -1, 0, 0, UNIT), ("add", 0, -1, 0, UNIT), ("add", 0, 1, -1, UNIT), ("add", 0, 1, 7, UNIT), ("add", 0, 1, 0, None), ("add", 0, True, 0, UNIT),
    ("add", False, 1, 0, UNIT), ("add", 0, 1, True, UNIT), ("add", 0, 1, "0", UNIT), ("times", 0), ("times", 0, 1, 2), ("times", -1, 0),
    ("times", 0, -1), ("times", 0, None), ("times", True, 0), ("exchange", 0), ("exchange", 0, -1), ("exchange", "0", 0), ("exchange", 0, 1, 2),
    ("scale", 0), ("scale", 0, (0, 1)), ("scale", 0, 2), ("scale", 0, (2, 2)), ("scale", -1, (1, 1)), ("scale", 0, (1, 1), 0), (("add",), 0, 1, 0, UNIT),
]
FORMULA = ("and", ("zero", read("x' - y")), ("some", "z", ("or", ("zero", read("z - x''")), ("not", ("all", "w", ("zero", read("w*y")))))))
NO_FORMULAS = [*ANYTHING, ("zero",), ("zero", None), ("zero", UNIT, UNIT), ["zero", UNIT], ("some", "X", ("zero", UNIT)), ("not", ()), ("and", ("zero", UNIT))]


def deep(many, base=("zero", read("x"))):
    """A formula that is so deep."""
    for _ in range(many - 1):
        base = ("not", base)
    return base


def at_functions(p, table):
    """The coefficients of what a polynomial comes to at functions, as Fractions."""
    found = [Fraction(0)]
    for monomial, (n, d) in p:
        term = [Fraction(n, d)]
        for (name, k), e in monomial:
            row = table[name]
            for _ in range(k):
                row = [c * at for at, c in enumerate(row)][1:]
            for _ in range(e):
                term = [sum([term[i] * row[k - i] for i in range(k + 1) if i < len(term) and k - i < len(row)], Fraction(0))
                        for k in range(len(term) + len(row) - 1)] if row else []
        found = [(found[k] if k < len(found) else 0) + (term[k] if k < len(term) else 0) for k in range(max(len(found), len(term)))]
    while found and found[-1] == 0:
        found.pop()
    return found


def tables(planted):
    """The dict from names to lists of Fractions of planted functions."""
    return {name: [Fraction(*c) for c in row] for name, row in planted}


def random_step(rng, names):
    """A step with some names."""
    kind = rng.choice(["put", "put", "scale", "exchange"])
    x, y = rng.sample(names, 2)
    if kind == "put":
        return (kind, x, random_polynomial(rng, [(name, k) for name in names if name != x for k in (0, 1)], 2, rng.randint(0, 2), 5))
    return (kind, x, (rng.choice([-3, -1, 2, 5]), rng.choice([1, 7]))) if kind == "scale" else (kind, x, y)


class MapsTest(unittest.TestCase):
    def raises(self, error, call, *arguments, **fields):
        with self.assertRaises(error) as caught:
            call(*arguments)
        for name, worth in fields.items():
            self.assertEqual(getattr(caught.exception, name), worth)

    def bad_maps(self, call, *rest):
        good = ("scale", "x", (2, 1))
        for step in BAD_STEPS:
            self.raises(BadMap, call, (step,), *rest, place=0)
        self.raises(BadMap, call, (good, good, BAD_STEPS[0], BAD_STEPS[1]), *rest, place=2)
        for steps in (None, 1, "put", [], [good], (good,) * 13, {}, True):
            self.raises(BadMap, call, steps, *rest, place=-1)


class CarriedTest(MapsTest):
    def test_example(self):
        self.assertEqual(carried(SHIFT, read("x' - x")), read("x' + y'' - x - y'"))
        planted = (("x", ((0, 1), (1, 1))), ("y", ((0, 1), (0, 1), (1, 1))))
        self.assertEqual(led(SHIFT, planted), (("x", ((0, 1), (3, 1))), planted[1]))

    def test_each_step(self):
        for step, text, right in ((("put", "x", ()), "x'*y", "x'*y"), (("put", "x", read("2*y^2")), "x^2 - x''", "x^2 + 4*x*y^2 + 4*y^4 - x'' - 4*y'^2 - 4*y*y''"),
                                  (("put", "x", read("u - 1/2")), "x' + y", "x' + u' + y"), (("put", "z", read("y")), "x + y", "x + y"),
                                  (("scale", "x", (-1, 2)), "x'^2*y - x", "1/4*x'^2*y + 1/2*x"), (("scale", "u", (3, 1)), "x'", "x'"),
                                  (("exchange", "x", "y"), "x''*y - x + 3*y'", "y''*x - y + 3*x'"), (("exchange", "x", "u"), "x*y'", "u*y'")):
            self.assertEqual(carried((step,), read(text)), read(right))
        self.assertEqual(letters_of(carried(SHIFT, read("x[20]"))), (("x", 20), ("y", 21)))
        self.assertEqual(carried((), read("x'")), read("x'"))
        self.assertEqual(carried(SHIFT, ()), ())

    def test_steps_go_one_after_the_other(self):
        steps = (("put", "x", read("y")), ("exchange", "x", "y"), ("scale", "y", (2, 1)), ("put", "y", read("z'")))
        # x -> x + y -> y + x -> 2 y + x -> 2 y + 2 z' + x.
        self.assertEqual(carried(steps, read("x")), read("2*y + 2*z' + x"))
        self.assertEqual(carried(steps, read("y")), read("x"))
        self.assertEqual(carried(steps[:1] * 12, read("x'")), read("x' + 12*y'"))

    def test_inverse(self):
        steps = (("put", "x", read("y^2 - u'")), ("scale", "y", (-2, 3)), ("exchange", "x", "y"))
        self.assertEqual(inverse(steps), (("exchange", "x", "y"), ("scale", "y", (-3, 2)), ("put", "x", read("u' - y^2"))))
        self.assertEqual(inverse(()), ())
        rng = rng_of(14)
        for _ in range(40):
            steps = tuple(random_step(rng, ["x", "y", "z"]) for _ in range(rng.randint(0, 4)))
            f = random_polynomial(rng, [("x", 0), ("y", 1), ("z", 0)], 2, 3, 5)
            try:
                there = carried(steps, f)
            except TooGreat:
                continue
            if len(there) < 60:
                self.assertEqual(carried(inverse(steps), there), f)
            self.assertEqual(inverse(inverse(steps)), steps)

    def test_facts(self):
        rng = rng_of(15)
        for _ in range(40):
            steps = tuple(random_step(rng, ["x", "y", "z"]) for _ in range(rng.randint(1, 3)))
            f, h = [random_polynomial(rng, [("x", 0), ("y", 1), ("z", 0)], 2, 2, 5) for _ in range(2)]
            planted = tuple((name, tuple((rng.randint(1, 5), 1) for _ in range(rng.randint(0, 3)))) for name in "xyz")
            self.assertEqual(carried(steps, plus(f, h)), plus(carried(steps, f), carried(steps, h)))
            self.assertEqual(carried(steps, times(f, h)), times(carried(steps, f), carried(steps, h)))
            self.assertEqual(carried(steps, rate(f)), rate(carried(steps, f)))
            there = led(steps, planted)
            self.assertEqual(at_functions(carried(steps, f), tables(planted)), at_functions(f, tables(there)))
            self.assertEqual(led(inverse(steps), there), planted)

    def test_systems(self):
        P = system(("x' - y", "y"), ("x",))
        self.assertEqual(carried_system(SHIFT, P), system(("x' + y'' - y", "y"), ("x + y'",)))
        self.assertEqual(carried_system((), P), P)
        self.assertEqual(carried_system(SHIFT, ((), ())), ((), ()))
        f, ranking = read("x'' - y'"), (("x", "y"),)
        self.assertEqual(follows(carried_system(SHIFT, P), carried(SHIFT, f), ranking)[0], follows(P, f, ranking)[0])

    def test_led(self):
        # The last step leads first.
        steps = (("scale", "x", (2, 1)), ("put", "x", read("y")))
        planted = (("a", ((5, 1),)), ("x", ((1, 1),)), ("y", ((0, 1), (1, 1))))
        self.assertEqual(led(steps, planted), (planted[0], ("x", ((2, 1), (2, 1))), planted[2]))
        self.assertEqual(led(steps[::-1], planted), (planted[0], ("x", ((2, 1), (1, 1))), planted[2]))
        self.assertEqual(led((("exchange", "x", "a"),), planted), (("a", ((1, 1),)), ("x", ((5, 1),)), planted[2]))
        self.assertEqual(led((("put", "x", read("-1")),), planted)[1], ("x", ()))
        self.assertEqual(led((("put", "y", read("-1/2*x^2*a + x'")),), planted)[2], ("y", ((-5, 2), (1, 1))))
        self.assertEqual(led((("put", "x", read("y^12")),), planted)[1], ("x", ((1, 1), *[(0, 1)] * 11, (1, 1))))
        self.assertEqual(led((), ()), ())

    def test_coefficients_of_functions(self):
        long = (("x", ()), ("y", ((1, 1),) * 34))
        self.assertEqual(len(led((("put", "x", power(read("y"), 12)),), long)[0][1]), 397)
        twenty = (("x", ()), ("y", (*[(0, 1)] * 21, (1, 1))), ("z", (*[(0, 1)] * 20, (1, 1))))
        steps = (("put", "x", times(power(read("y"), 9), power(read("z"), 3))),)
        self.assertEqual(len(led(steps, twenty)[0][1]), 9 * 21 + 60 + 1)
        for many, bad in ((400, False), (401, True)):
            # y^12 z with 33 * 12 = 396 and a function z.
            planted = (("x", ()), ("y", (*[(0, 1)] * 33, (1, 1))), ("z", (*[(0, 1)] * (many - 397), (1, 1))))
            steps = (("put", "x", times(power(read("y"), 12), read("z"))),)
            if bad:
                self.raises(TooGreat, led, steps, planted, what="terms")
            else:
                self.assertEqual(len(led(steps, planted)[0][1]), 400)

    def test_errors(self):
        self.bad_maps(carried, None)
        self.bad_maps(carried_system, None)
        self.bad_maps(carried_formula, None)
        self.bad_maps(led, None)
        self.bad_maps(inverse)
        self.bad_maps(hidden, None, None)
        for p in NO_POLYNOMIALS:
            self.raises(BadPolynomial, carried, SHIFT, p)
            self.raises(BadMap, carried, (("put", "x", p),), UNIT, place=0)
            self.raises(BadSystem, carried_system, SHIFT, ((), (p,)))
        for value in [v for v in ANYTHING if v not in ((), ((), ()))] + [()]:
            self.raises(BadSystem, carried_system, SHIFT, value)
        for planted in [*[v for v in ANYTHING if v != ()], (("y", ((0, 1),)),), (("y", ()), ("x", ())), (("x", ()), ("x", ())), (("x", [(1, 1)]),)]:
            self.raises(BadPlanted, led, (), planted)
        for steps, planted in ((SHIFT, (("x", ()),)), (SHIFT, (("y", ()),)), ((("scale", "z", (1, 2)),), (("x", ()), ("y", ()))),
                               ((("exchange", "x", "z"),), (("x", ()),)), ((("put", "x", read("u*y - u*y + z")),), (("x", ()), ("y", ())))):
            self.raises(BadPlanted, led, steps, planted)
        self.raises(BadPlanted, led, SHIFT, (("x", ()), ("y", ((0, 1),))))

    def test_too_great(self):
        wide = read(" + ".join(f"x{k}" for k in range(1, 60)) + " + 1")
        # 60 pairs squared are 1830, to the power 3 they are more than 2,000, and 216,000 products.
        self.assertEqual(len(carried((("put", "y", wide),), read("y^2"))), 1830 + 61)
        self.raises(TooGreat, carried, (("put", "y", wide),), read("y^3"), what="put")
        some = read(" + ".join(f"x{k}" for k in range(1, 40)))
        self.raises(TooGreat, carried, (("put", "y", some),), read("y^2 + y^2*u + y^2*v"), what="terms")
        self.raises(TooGreat, carried_system, (("put", "y", wide),), system(("x",), ("y^3",)), what="put")
        self.raises(TooGreat, carried_formula, (("put", "y", wide),), ("not", ("zero", read("y^3"))), what="put")
        self.raises(TooGreat, moved, ("some", "y", ("zero", read("y^3"))), ("put", "y", wide), what="put")
        # Exactly 2,000 pairs: 43 letters and y, with 24 pairs more.
        row = [f"x{k}" for k in range(1, 44)]
        f = plus(times(read("y + u"), read("y + v")), read("z"))
        step = ("put", "y", read(" + ".join(row)))
        # (y + s)^2 has 990 pairs, (y + s) (u + v) 88, u v and z one each.
        self.assertEqual(len(carried((step,), f)), 990 + 88 + 2)
        for many, bad in ((2000, False), (2001, True)):
            # 990 pairs twice are 1980.
            g = plus(times(read("y^2"), read("u + v")), read(" + ".join(f"w{k}" for k in range(many - 1980))))
            if bad:
                self.raises(TooGreat, carried, (step,), g, what="terms")
            else:
                self.assertEqual(len(carried((step,), g)), many)


class FormulaTest(MapsTest):
    def test_carried(self):
        steps = (("put", "x", read("y")),)
        found = ("and", ("zero", read("x' + y' - y")), ("some", "z", ("or", ("zero", read("z - x'' - y''")), ("not", ("all", "w", ("zero", read("w*y")))))))
        self.assertEqual(carried_formula(steps, FORMULA), found)
        self.assertEqual(carried_formula((), FORMULA), FORMULA)
        self.assertEqual(carried_formula((("exchange", "x", "u"),), ("zero", read("x' - y"))), ("zero", read("u' - y")))
        sentence = ("all", "u", ("some", "x", ("zero", read("x' - u"))))
        self.assertEqual(carried_formula((("scale", "v", (2, 1)),), sentence), sentence)

    def test_bound_names(self):
        for steps, name in (((("put", "x", read("z + w")),), "w"), ((("put", "z", read("w")),), "z"), ((("put", "x", read("z")),), "z"),
                            ((("exchange", "w", "z"),), "w"), ((("exchange", "x", "z"),), "z"), ((("scale", "w", (2, 1)),), "w"),
                            ((("scale", "x", (2, 1)), ("put", "x", read("y + z")), ("scale", "w", (2, 1))), "z")):
            self.raises(BoundName, carried_formula, steps, FORMULA, name=name)

    def test_formula_errors(self):
        for formula in NO_FORMULAS:
            self.raises(BadFormula, carried_formula, SHIFT, formula)
            self.raises(BadFormula, moved, formula, None)
        wide = ("zero", read("x"))
        for _ in range(6):
            wide = ("or", wide, wide)
        five = ("zero", read("x"))
        for name in "abcde":
            five = ("some", name, five)
        for formula in (deep(21), wide, five):
            self.raises(BadFormula, carried_formula, SHIFT, formula)
            self.raises(BadFormula, moved, formula, None)
        self.assertEqual(carried_formula(SHIFT, deep(20)), deep(20, ("zero", read("x + y'"))))

    def test_moved(self):
        F = ("and", ("zero", read("x' - y")), ("not", ("zero", read("x"))))
        for word in ("some", "all"):
            found = moved((word, "x", F), ("put", "x", read("y")))
            self.assertEqual(found, (word, "x", ("and", ("zero", read("x' + y' - y")), ("not", ("zero", read("x + y"))))))
            found = moved((word, "x", F), ("scale", "x", (1, 2)))
            self.assertEqual(found, (word, "x", ("and", ("zero", read("1/2*x' - y")), ("not", ("zero", read("1/2*x"))))))
            for step in (("scale", "y", (1, 2)), ("put", "y", read("x")), ("exchange", "x", "y"), ("exchange", "y", "x"), ("put", "z", ())):
                self.raises(NotBound, moved, (word, "x", F), step)
        for formula in (F, ("zero", read("x")), ("not", ("some", "x", F))):
            self.raises(NotBound, moved, formula, ("scale", "x", (1, 2)))
        for step in BAD_STEPS:
            self.raises(BadMap, moved, ("zero", read("x")), step, place=0)
        inner = ("some", "x", ("all", "z", ("some", "u", ("zero", read("x*z*u")))))
        self.raises(BoundName, moved, inner, ("put", "x", read("z + u")), name="u")
        self.raises(BoundName, moved, inner, ("put", "x", read("z")), name="z")
        self.raises(BoundName, moved, ("some", "x", ("all", "x", ("zero", read("x")))), ("scale", "x", (2, 1)), name="x")
        self.assertEqual(moved(inner, ("put", "x", read("y")))[2], ("all", "z", ("some", "u", ("zero", read("x*z*u + y*z*u")))))
        sentence = ("all", "y", ("some", "x", ("zero", read("x' - y*x - 1"))))
        whole = ("all", "y", moved(sentence[2], ("put", "x", read("y^2 - y'"))))
        self.assertEqual(decide(whole)[0], decide(sentence)[0])


P = system(("x' - y", "y^2", "x*y + 1"), ("x", "y - 1"))


class MixedTest(MapsTest):
    def test_each_mix(self):
        a, b, c = P[0]
        self.assertEqual(mixed((), P), P)
        self.assertEqual(mixed((("add", 0, 1, 0, read("x")),), P), ((plus(a, times(read("x"), b)), b, c), P[1]))
        self.assertEqual(mixed((("add", 2, 0, 2, read("3*u'")),), P), ((a, b, plus(c, times(read("3*u'"), rates(a, 2)[2]))), P[1]))
        self.assertEqual(mixed((("add", 1, 2, 6, UNIT),), P), ((a, plus(b, rates(c, 6)[6]), c), P[1]))
        self.assertEqual(mixed((("add", 1, 2, 3, ()),), P), P)
        self.assertEqual(mixed((("times", 2, 1),), P), ((a, b, times(c, read("y - 1"))), P[1]))
        self.assertEqual(mixed((("exchange", 0, 2),), P), ((c, b, a), P[1]))
        self.assertEqual(mixed((("exchange", 1, 1),), P), P)
        self.assertEqual(mixed((("scale", 1, (-2, 7)),), P), ((a, scaled(b, (-2, 7)), c), P[1]))

    def test_order(self):
        a, b, c = P[0]
        mixes = (("exchange", 0, 1), ("add", 0, 1, 1, read("x")), ("times", 0, 0), ("scale", 1, (3, 1)))
        first = times(plus(b, times(read("x"), rate(a))), read("x"))
        self.assertEqual(mixed(mixes, P), ((first, scaled(a, (3, 1)), c), P[1]))
        self.assertEqual(mixed((("add", 0, 1, 0, UNIT), ("add", 0, 1, 0, read("-1"))) * 6, P), P)

    def test_hidden(self):
        mixes = (("add", 0, 1, 1, read("x")), ("times", 2, 0))
        self.assertEqual(hidden(SHIFT, mixes, P), mixed(mixes, carried_system(SHIFT, P)))
        self.assertEqual(hidden((), (), P), P)
        small, ranking = system(("x' - y", "y'"),), (("x", "y"),)
        whole = hidden((("put", "y", read("x^2")),), (("add", 0, 1, 0, read("2")),), small)
        for text in ("x''", "x'", "x"):
            self.assertEqual(follows(whole, carried((("put", "y", read("x^2")),), read(text)), ranking)[0], follows(small, read(text), ranking)[0])

    def test_forms(self):
        good = ("scale", 0, (2, 1))
        for mix in BAD_MIXES:
            self.raises(BadMix, mixed, (mix,), None, place=0)
            self.raises(BadMix, hidden, (), (mix,), None, place=0)
            self.raises(BadMix, mixed, (("scale", 9, (1, 2)), good, mix), P, place=2)
        for mixes in (None, 1, [], [good], (good,) * 13, "add", False):
            self.raises(BadMix, mixed, mixes, None, place=-1)
            self.raises(BadMix, hidden, (), mixes, None, place=-1)

    def test_lacking_places(self):
        for mix in (("add", 3, 0, 0, UNIT), ("add", 0, 3, 0, UNIT), ("times", 3, 0), ("times", 0, 2), ("exchange", 3, 3), ("exchange", 0, 3), ("exchange", 3, 0),
                    ("scale", 3, (1, 2))):
            self.raises(BadMix, mixed, (("scale", 0, (1, 2)), mix), P, place=1)
            self.raises(BadMix, hidden, SHIFT, (mix,), P, place=0)
            self.raises(BadSystem, mixed, (mix,), None)
            self.raises(BadSystem, hidden, SHIFT, (mix,), ((), (None,)))
        self.raises(BadMix, mixed, (("times", 0, 0),), system(("x",)), place=0)
        self.raises(BadMap, hidden, None, None, None, place=-1)

    def test_too_great(self):
        wide = read(" + ".join(f"x{k}" for k in range(1, 61)))
        tall = system(("x", "y"), (read_text(wide), "u"))
        # 60 times 60 letters of two kinds are 3,600 pairs.
        other = read(" + ".join(f"y{k}" for k in range(1, 61)))
        self.raises(TooGreat, mixed, (("add", 0, 1, 0, wide),), ((read("x"), other), ()), what="terms")
        self.assertEqual(len(mixed((("times", 0, 0),), tall)[0][0]), 60)
        self.raises(TooGreat, mixed, (("times", 1, 0),), ((read("x"), other), (wide,)), what="terms")
        forty, fifty = read(" + ".join(f"x{k}" for k in range(1, 41))), read(" + ".join(f"y{k}" for k in range(1, 51)))
        self.assertEqual(len(mixed((("times", 0, 0),), ((forty,), (fifty,)))[0][0]), 2000)
        self.raises(TooGreat, mixed, (("times", 0, 0),), ((plus(forty, UNIT),), (fifty,)), what="terms")
        # A place that lacks goes ahead of what is too great.
        self.raises(BadMix, mixed, (("times", 0, 0), ("times", 1, 0)), ((plus(forty, UNIT),), (fifty,)), place=1)
        big = (("put", "y", wide),)
        self.raises(BadMix, hidden, big, (("scale", 4, (1, 2)),), system(("y^3",)), place=0)
        self.raises(TooGreat, hidden, big, (("scale", 0, (1, 2)),), system(("y^3",)), what="put")


def read_text(p):
    """The text of a sum of letters."""
    return " + ".join(names_of(p))


if __name__ == "__main__":
    unittest.main()
