"""Point 70 as the heading ratesay/observed.py names it: the rank test."""

import unittest

from ratesay.errors import BadName
from ratesay.models import rate_form
from ratesay.observed import is_observed, observed
from ratesay.polynomials import UNIT, letter, partial, plus, scaled, times
from ratesay.texts import read
from tests.helpers import ANYTHING, polys, random_polynomial, rng_of
from tests.test_generic import CHAIN, GIVEN, PUSHED, SLOPED, SQUARE, STEADY
from tests.test_models import FRACTION, GROWTH, SMALL, WHOLE, told

TWO = (told(x="p*w", w="q*x + x^2"), ("p", "q"), ("u",), told(y=("x", "w"), z="u*x"), told(k="p*q", m=("p", "x")))
DEEP = (told(x="a*x - b*x*w", w="c*x*w - w"), ("a", "b", "c"), (), told(y="x"), told(k="b*w", r=("a", "c")))


def own_letters(model):
    """The letters by which derivatives are taken."""
    return [(x, 0) for x, _ in model[0]] + [(p, 0) for p in model[1]]


def slope(model, v):
    """The row of the derivatives of a letter, times a power of its denominator, and this power."""
    n, d = rate_form(model, v)
    row = [plus(times(partial(n, w), d), scaled(times(n, partial(d, w)), (-1, 1))) for w in own_letters(model)]
    return row, times(d, d)


def whole_sum(rows):
    """The sum of products of three."""
    found = ()
    for a, b, c in rows:
        found = plus(found, times(a, times(b, c)))
    return found


def is_right(model, z, paper):
    """Whether a paper is right, by polynomials alone."""
    word = paper[0]
    last, below = slope(model, (z, 0))
    if word == "free":
        many = len(own_letters(model))
        for j in range(many):
            for a, _ in model[3]:
                if whole_sum([(n, v, UNIT) for n, v in zip(slope(model, (a, j))[0], paper[1])]):
                    return False
        return whole_sum([(n, v, UNIT) for n, v in zip(last, paper[1])]) != ()
    rows = [(slope(model, v), c) for v, c in paper[2]]
    for k in range(len(last)):
        total = times(last[k], paper[1])
        for (_, d), _ in rows:
            total = times(total, d)
        for at, ((row, _), c) in enumerate(rows):
            part = times(times(row[k], c), below)
            for other, ((_, d), _) in enumerate(rows):
                if other != at:
                    part = times(part, d)
            total = plus(total, scaled(part, (-1, 1)))
        if total:
            return False
    return paper[1] != ()


class ObservedTest(unittest.TestCase):
    def check(self, model, z, word, exact=True):
        paper = observed(model, z)
        self.assertEqual(paper[0], word, z)
        self.assertEqual(is_observed(model, z, paper), word)
        if exact:
            self.assertIs(is_right(model, z, paper), True)
        return paper

    def test_examples(self):
        self.check(SLOPED, "x", "finite")
        self.check(SLOPED, "p", "free")
        self.check(SLOPED, "q", "free")
        self.check(GROWTH, "p", "finite")
        self.check(GROWTH, "x", "finite")
        free = ("free", polys("0", "1", "-x"))
        for z in ("p", "q"):
            self.assertEqual(is_observed(SLOPED, z, free), "free")
        self.assertIsNone(is_observed(SLOPED, "x", free))
        self.assertEqual(is_observed(SLOPED, "x", ("finite", UNIT, ((("y", 0), UNIT),))), "finite")
        self.assertEqual(is_observed(GROWTH, "p", ("finite", read("x"), ((("y", 0), read("-p")), (("y", 1), UNIT)))), "finite")

    def test_models(self):
        for model, rows in ((SQUARE, {"x": 1, "p": 1}), (STEADY, {"x": 1}), (SMALL, {"p": 1}), (GIVEN, {"x": 1, "q": 1}),
                            (CHAIN, {"x": 1, "w": 1, "a": 1, "b": 1}), (PUSHED, {"x": 1, "a": 1, "b": 1}),
                            (DEEP, {"x": 1, "w": 0, "a": 1, "b": 0, "c": 1, "k": 1, "r": 1})):
            for z, right in rows.items():
                self.check(model, z, "finite" if right else "free", model != DEEP)
        for z in ("x", "w", "p", "q", "k", "m"):
            self.check(TWO, z, observed(TWO, z)[0], False)
        for z in ("x", "w", "p", "q", "r"):
            self.check(FRACTION, z, "finite", False)
        self.check(WHOLE, "x", "finite", False)
        none = (told(x="x"), ("p",), (), told(y="1"), ())
        self.check(none, "x", "free")
        self.check(none, "p", "free")
        self.check((told(x="x"), ("p",), (), told(y="p"), told(q="x^2", r="p^3", s="1")), "s", "finite")
        self.check((told(x="x"), ("p",), (), told(y="p"), told(q="x^2", r="p^3", s="1")), "r", "finite")
        self.check((told(x="x"), ("p",), (), told(y="p"), told(q="x^2", r="p^3", s="1")), "q", "free")

    def test_light_models(self):
        rng = rng_of(9)

        def some(among):
            while True:
                p = random_polynomial(rng, among, 2, rng.randint(1, 3), 9, True)
                if p:
                    return p
        for at in range(25):
            states, many = ["x", "w"][:rng.randint(1, 2)], rng.randint(0, 2 if at < 22 else 3)
            parameters = ("a", "b", "c")[:many]
            inputs = ("u",) if rng.random() < 0.4 else ()
            own = [(name, 0) for name in (*states, *parameters)]
            more = own + [(u, 0) for u in inputs]
            outputs = tuple((name, (some(more), UNIT)) for name in (["y", "z"] if not inputs and rng.random() < 0.4 else ["y"]))
            model = (tuple((x, (some(more), UNIT)) for x in states), parameters, inputs, outputs, (("q", (some(own), UNIT)),))
            for z in (*states, *parameters, "q"):
                self.assertEqual(is_observed(model, z, observed(model, z)), observed(model, z)[0])

    def test_wrong_papers(self):
        right = ("finite", read("x"), ((("y", 0), read("-p")), (("y", 1), UNIT)))
        _, s, rows = right
        wrong = [*ANYTHING, right[:2], (*right, 0), list(right), ("finite", (), ()), ("finite", s, list(rows)), ("finite", s, rows[::-1]),
                 ("finite", s, (*rows, rows[1])), ("finite", s, rows[:1]), ("finite", read("2*x"), rows), ("finite", (), rows),
                 ("finite", s, (rows[0], (("y", 2), UNIT))), ("finite", s, (rows[0], (("x", 1), UNIT))), ("free", s, rows),
                 ("finite", s, (rows[0], (("y", 1), read("2")))), ("finite", s, (rows[0], [("y", 1), UNIT])), ("finite", None, rows),
                 ("finite", read("x'"), rows), ("finite", s, (rows[0], (("y", 1), read("y")))), ("finite", s, (rows[0], (("z", 1), UNIT))),
                 ("finite", s, (rows[0], (("y", True), UNIT))), ("finite", s, (*rows, (("y", 2), ()))), ("finite", read("x + u"), rows),
                 ("free", polys("0", "0")), ("free", polys("0", "1")), ("free", polys("x", "-p")), ("free", ()), ("free", None)]
        for paper in wrong:
            self.assertIsNone(is_observed(GROWTH, "p", paper), paper)
        self.assertEqual(is_observed(GROWTH, "p", right), "finite")
        self.assertIsNone(is_observed(GROWTH, "x", right))
        free = ("free", polys("0", "1", "-x"))
        for paper in (("free", polys("0", "1", "x")), ("free", polys("1", "1", "-x")), ("free", polys("0", "1")), ("free", polys("0", "1", "-x", "0")),
                      ("free", polys("0", "0", "0")), ("free", polys("0", "1", "-x'")), ("free", polys("0", "1", "-y")), ("free", [*free[1]]),
                      ("free", (None, UNIT, read("-x"))), ("Free", free[1]), (*free, 0)):
            self.assertIsNone(is_observed(SLOPED, "p", paper), paper)
        self.assertEqual(is_observed(SLOPED, "p", ("free", polys("0", "x - 7", "-x^2 + 7*x"))), "free")

    def test_inputs_in_papers(self):
        self.assertEqual(is_observed(GIVEN, "q", ("finite", read("2*u[3]"), ((("y", 0), read("u[3]")),))), "finite")
        self.assertIsNone(is_observed(GIVEN, "q", ("finite", read("2*u[3]"), ((("y", 0), read("u[4]")),))))
        high = letter("u", 10 ** 9)
        self.assertEqual(is_observed(GIVEN, "q", ("finite", scaled(high, (2, 1)), ((("y", 0), high),))), "finite")
        self.assertIsNone(is_observed(GIVEN, "q", ("finite", high, ((("y", 0), high),))))
        self.assertIsNone(is_observed(GIVEN, "q", ("finite", read("2*u[3]"), ((("y", 1), read("u[3]")),))))

    def test_bad_names(self):
        for z in [*[v for v in ANYTHING if v != "x"], "y", "u", "w", ("q", 0)]:
            for call, rest in ((observed, ()), (is_observed, (None,))):
                with self.assertRaises(BadName) as caught:
                    call(GIVEN, z, *rest)
                self.assertEqual(caught.exception.name, z)


if __name__ == "__main__":
    unittest.main()
