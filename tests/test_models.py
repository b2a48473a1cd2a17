"""Points 64, 65, 67, 68, 69 as the heading ratesay/models.py names them: models, the general run, rankings."""

import unittest

from ratesay.errors import BadName, BadNumber, TooGreat
from ratesay.models import (
    holds_in_runs, input_output_ranking, is_against, is_model, put_in, rate_form, ranking_for, ranking_over_parameters,
    run_against, runs_of, system_of,
)
from ratesay.polynomials import UNIT, as_number, less, letter, letters_of, number, partial, plus, quotient, times
from ratesay.rankings import is_ranking
from ratesay.rates import rates
from ratesay.texts import read
from tests.helpers import ANYTHING, polys, rng_of, value
from tests.kinds import letters, polynomial


def told(**rows):
    """Rows (name, (n, d)) of a model: texts n or pairs of texts."""
    found = []
    for name, row in rows.items():
        n, d = (row, "1") if isinstance(row, str) else row
        found.append((name, (read(n), read(d))))
    return tuple(found)


GROWTH = (told(x="p*x"), ("p",), (), told(y="x"), ())
FRACTION = (told(x=("p*x + u", "x + 1"), w=("x", "2*p")), ("p",), ("u",), told(y=("1", "x"), z=("u*w - 1", "3")),
            told(q=("p", "w"), r="p^2"))
SMALL = ((), ("p",), (), told(y="p"), ())
WHOLE = (told(x=("x^2", "x + p")), ("p",), ("u", "v"), told(y="x*u", z=("v", "x")), told(q=("p", "x")))
MODELS = (GROWTH, FRACTION, SMALL, WHOLE)


def changed(model, at, part):
    return (*model[:at], part, *model[at + 1:])


class ModelTest(unittest.TestCase):
    def test_is_model(self):
        for model in MODELS:
            self.assertIs(is_model(model), True)
        twelve = tuple(f"p{k}" for k in range(11))
        self.assertIs(is_model(((), twelve, (), told(y="p3"), ())), True)
        self.assertIs(is_model(((), (*twelve, "p11"), (), told(y="p3"), ())), False)
        wrong = [
            *ANYTHING, GROWTH[:4], (*GROWTH, ()), list(GROWTH), changed(GROWTH, 0, [*GROWTH[0]]), changed(GROWTH, 1, "p"),
            changed(GROWTH, 1, ["p"]), changed(GROWTH, 1, ("p", "p")), changed(GROWTH, 1, ("x",)), changed(GROWTH, 1, ("P",)),
            changed(GROWTH, 1, (1,)), changed(GROWTH, 1, ()), changed(GROWTH, 2, ("p",)), changed(GROWTH, 2, ("y",)),
            changed(GROWTH, 2, (("u",),)), changed(GROWTH, 3, ()), changed(GROWTH, 3, told(x="p")),
            changed(GROWTH, 3, told(y="y")), changed(GROWTH, 3, told(y="x'")), changed(GROWTH, 3, told(y=("x", "0"))),
            changed(GROWTH, 3, told(y="u")), changed(GROWTH, 3, (("y", read("x")),)), changed(GROWTH, 3, (("y", (read("x"),)),)),
            changed(GROWTH, 3, (("y", [read("x"), UNIT]),)), changed(GROWTH, 3, (["y", (read("x"), UNIT)],)),
            changed(GROWTH, 3, (("Y", (read("x"), UNIT)),)), changed(GROWTH, 3, (("y", (None, UNIT)),)),
            changed(GROWTH, 3, told(y="x") + told(y="p")), changed(GROWTH, 0, told(x=("p*x", "0"))),
            changed(GROWTH, 0, told(x="p*x'")), changed(GROWTH, 0, told(x="p*y")), changed(GROWTH, 0, told(x=("p", "q"))),
            changed(GROWTH, 4, told(x="p")), changed(GROWTH, 4, told(q="y")), changed(GROWTH, 4, told(q="q")),
            changed(GROWTH, 4, told(q="x'")), changed(GROWTH, 4, told(q=("x", "0"))), changed(FRACTION, 4, told(q="u")),
            changed(FRACTION, 4, told(q=("p", "u"))), ((), (), (), told(y="1"), ()), ((), (), ("u",), told(y="u"), ()),
        ]
        for bad in wrong:
            self.assertIs(is_model(bad), False, bad)

    def test_system(self):
        self.assertEqual(system_of(GROWTH), (polys("x' - p*x", "p'", "y - x"), ()))
        self.assertEqual(system_of(SMALL), (polys("p'", "y - p"), ()))
        self.assertEqual(system_of(FRACTION), (
            polys("(x + 1)*x' - p*x - u", "2*p*w' - x", "p'", "x*y - 1", "3*z - u*w + 1", "w*q - p", "r - p^2"),
            polys("x + 1", "2*p", "x", "w"),
        ))

    def test_rankings(self):
        self.assertEqual(input_output_ranking(FRACTION), (("x", "w", "p", "q", "r"), ("y", "z"), ("u",)))
        self.assertEqual(ranking_over_parameters(FRACTION), (("x", "w", "q", "r"), ("y", "z"), ("p",), ("u",)))
        self.assertEqual(ranking_for(FRACTION, "p"), (("x", "w", "q", "r"), ("p",), ("y", "z"), ("u",)))
        self.assertEqual(ranking_for(FRACTION, "r"), (("x", "w", "p", "q"), ("r",), ("y", "z"), ("u",)))
        self.assertEqual(input_output_ranking(SMALL), (("p",), ("y",)))
        self.assertEqual(ranking_over_parameters(SMALL), (("y",), ("p",)))
        self.assertEqual(ranking_for(SMALL, "p"), (("p",), ("y",)))
        self.assertEqual(ranking_for(WHOLE, "x"), (("p", "q"), ("x",), ("y", "z"), ("u", "v")))
        for model in MODELS:
            self.assertTrue(is_ranking(ranking_over_parameters(model)))
            for z in ("y", "nope", "u", None, ("p",)):
                with self.assertRaises(BadName) as caught:
                    ranking_for(model, z)
                self.assertEqual(caught.exception.name, z)


def bottoms(model):
    return [d for part in (model[0], model[3], model[4]) for _, (_, d) in part if as_number(d) is None]


def slope(model, f):
    """The rate of a polynomial in letters of F, as a pair (n, d)."""
    n, d = (), UNIT
    table = dict(model[0])
    for name, k in letters_of(f):
        part = partial(f, (name, k))
        if name in table:
            high, low = table[name]
            n, d = plus(times(n, low), times(times(part, high), d)), times(d, low)
        elif name in model[2]:
            n = plus(n, times(times(part, letter(name, k + 1)), d))
    return n, d


class GeneralRunTest(unittest.TestCase):
    def same(self, pair, other):
        self.assertEqual(times(pair[0], other[1]), times(other[0], pair[1]))

    def right_denominator(self, model, d):
        """Whether d is a product of d's of the model and a number other than 0."""
        self.assertNotEqual(d, ())
        for low in bottoms(model):
            q = quotient(d, low)
            while q is not None:
                d, q = q, quotient(q, low)
        self.assertIsNotNone(as_number(d))

    def test_rate_form(self):
        for model in MODELS:
            states, parameters, inputs, outputs, quantities = model
            for x, row in states:
                self.same(rate_form(model, (x, 0)), (letter(x, 0), UNIT))
                self.same(rate_form(model, (x, 1)), row)
            for p in parameters:
                self.same(rate_form(model, (p, 0)), (letter(p, 0), UNIT))
                for k in (1, 2, 8):
                    self.same(rate_form(model, (p, k)), ((), UNIT))
            for u in inputs:
                for k in (0, 1, 8):
                    self.same(rate_form(model, (u, k)), (letter(u, k), UNIT))
            for z, row in [*outputs, *quantities]:
                self.same(rate_form(model, (z, 0)), row)
            for name in [row[0] for row in [*states, *outputs, *quantities]]:
                for k in range(4):
                    n, d = rate_form(model, (name, k))
                    self.right_denominator(model, d)
                    high, low = slope(model, n)
                    down, under = slope(model, d)
                    # (n / d)' = (n' d - n d') / (d d)
                    top = less(times(times(high, under), d), times(times(down, low), n))
                    self.same(rate_form(model, (name, k + 1)), (top, times(times(low, under), times(d, d))))

    def test_orders_up_to_eight(self):
        self.same(rate_form(GROWTH, ("y", 8)), (read("p^8*x"), UNIT))
        n, d = rate_form((told(x=("1", "x")), (), (), told(y="x"), ()), ("y", 8))
        self.right_denominator((told(x=("1", "x")), (), (), told(y="x"), ()), d)
        # x^2 = 2 t + c: the rates of x are 1 / x, -1 / x^3, 3 / x^5, ..
        self.same((n, d), (read("-135135"), times(read("x^12"), read("x^3"))))

    def test_put_in(self):
        for model in MODELS:
            for p in system_of(model)[0]:
                self.assertEqual(put_in(model, p)[0], ())
                for q in rates(p, 2):
                    self.assertEqual(put_in(model, q)[0], ())
            for q in system_of(model)[1]:
                self.assertNotEqual(put_in(model, q)[0], ())
        rng = rng_of(65)
        for _ in range(40):
            model = rng.choice(MODELS)
            names = [row[0] for row in [*model[0], *model[3], *model[4]]] + [*model[1], *model[2]]
            f, g = (polynomial(rng, letters(names, [0, 1]), 2, 3) for _ in range(2))
            (a, b), (c, d) = put_in(model, f), put_in(model, g)
            self.right_denominator(model, b)
            self.same(put_in(model, times(f, g)), (times(a, c), times(b, d)))
            self.same(put_in(model, plus(f, g)), (plus(times(a, d), times(c, b)), times(b, d)))
        self.same(put_in(GROWTH, ()), ((), UNIT))
        self.same(put_in(GROWTH, number((2, 3))), (number((2, 3)), UNIT))

    def test_runs(self):
        for model, text, answer in (
            (GROWTH, "y*y'' - y'^2", True), (GROWTH, "y' - p*y", True), (GROWTH, "y'", False), (GROWTH, "p'", True),
            (GROWTH, "p", False), (GROWTH, "0", True), (GROWTH, "3", False), (GROWTH, "y[8] - p^8*x", True),
            (SMALL, "y'", True), (SMALL, "y - p", True), (SMALL, "y", False), (FRACTION, "x*y - 1", True),
            (FRACTION, "y' + y^2*x'", True), (FRACTION, "x' - y", False), (FRACTION, "r - q^2*w^2", True),
            (WHOLE, "z'*x + z*x' - v'", True), (WHOLE, "y*z - u*v", True), (WHOLE, "u''", False),
        ):
            f = read(text)
            self.assertIs(holds_in_runs(model, f), answer, text)
            found = run_against(model, f)
            if answer:
                self.assertIsNone(found)
                self.assertIs(is_against(model, f, tuple((v, 1) for v, _ in run_against(model, UNIT))), False)
            else:
                self.assertIs(is_against(model, f, found), True)

    def test_random_runs(self):
        rng = rng_of(66)
        for _ in range(60):
            model = rng.choice(MODELS)
            names = [row[0] for row in [*model[0], *model[3], *model[4]]] + [*model[1], *model[2]]
            f = polynomial(rng, letters(names, [0, 1, 2]), 3, 3)
            found = run_against(model, f)
            self.assertIs(found is None, holds_in_runs(model, f))
            self.assertIs(found is None, put_in(model, f)[0] == ())
            if found is not None:
                self.assertIs(is_against(model, f, found), True)
                point = dict(found)
                rows = [put_in(model, f)[0], *bottoms(model)]
                for p in rows:
                    for v in letters_of(p):
                        point.setdefault(v, 0)
                    self.assertNotEqual(value(p, point), 0)

    def test_is_against(self):
        f = read("y' - 1")
        right = ((("p", 0), 2), (("x", 0), 3))
        self.assertIs(is_against(GROWTH, f, right), True)
        self.assertIs(is_against(GROWTH, f, ((("p", 0), 1), (("x", 0), 1))), False)
        for bad in [right[:1], right[1:], right[::-1], list(right), (*right, (("y", 0), 1)), (*right, (("x", 1), 1)),
                    (right[0], right[0], right[1]), ((("p", 0), 2), (("x", 0), True)), ((("p", 0), 2), [("x", 0), 3]),
                    ((("p", 0), 2), (["x", 0], 3)), ((("p", 0), 2), (("x", 0), (3, 1))), (right[0], (("x", 0), 3, 0)),
                    ((("p", 0), "2"), right[1]), *ANYTHING]:
            self.assertIs(is_against(GROWTH, f, bad), False, bad)
        g = read("u'' - y")
        start = ((("p", 0), 1), (("w", 0), 1), (("x", 0), 1))
        # y = 1 / x is 1, and u'' that is not told is 0.
        full = lambda *more: tuple(sorted([(("p", 0), 1), (("w", 0), 1), (("x", 0), 1), *more]))
        self.assertIs(is_against(FRACTION, g, start), True)
        self.assertIs(is_against(FRACTION, g, full((("u", 2), 1))), False)
        self.assertIs(is_against(FRACTION, g, full((("u", 2), 5), (("u", 9), 4))), True)
        for bad in (full((("u", 2), None)), full((("v", 0), 1)), full((("q", 0), 1)), full((("p", 1), 0))):
            self.assertIs(is_against(FRACTION, g, bad), False)
        for zero in ((("p", 0), 0), (("w", 0), 0), (("x", 0), 0), (("x", 0), -1)):
            point = tuple(sorted({**dict(start), zero[0]: zero[1]}.items()))
            self.assertIs(is_against(FRACTION, read("u'' + 7"), point), False)
        self.assertIs(is_against(FRACTION, read("u'' + 7"), start), True)

    def test_too_great(self):
        f = read("x^4*y^4*x'^4")
        model = (told(x="p*x + x + p + 1"), ("p",), (), told(y="x + p + p*x + 2"), ())
        for call in (holds_in_runs, run_against, lambda m, g: is_against(m, g, None)):
            with self.assertRaises(TooGreat) as caught:
                call(model, f)
            self.assertEqual(caught.exception.what, "put")

    def test_names(self):
        for model, text, name in ((GROWTH, "x + b", "b"), (GROWTH, "z*u + a*p", "a"), (FRACTION, "v - y", "v")):
            for call in (put_in, holds_in_runs, run_against, lambda m, f: is_against(m, f, None)):
                with self.assertRaises(BadName) as caught:
                    call(model, read(text))
                self.assertEqual(caught.exception.name, name)
            with self.assertRaises(BadName) as caught:
                rate_form(model, (name, 2))
            self.assertEqual(caught.exception.name, name)


class RunsTest(unittest.TestCase):
    def test_runs(self):
        self.assertEqual(runs_of(GROWTH, 1), (told(x1="p*x1"), ("p",), (), told(y1="x1"), ()))
        self.assertEqual(runs_of(GROWTH, 2), (told(x1="p*x1", x2="p*x2"), ("p",), (), told(y1="x1", y2="x2"), ()))
        model = (told(x=("p*x + u", "x + 1")), ("p",), ("u",), told(y=("1", "x")), told(q=("p", "x"), r="p^2"))
        self.assertEqual(runs_of(model, 2), (
            told(x1=("p*x1 + u1", "x1 + 1"), x2=("p*x2 + u2", "x2 + 1")), ("p",), ("u1", "u2"),
            told(y1=("1", "x1"), y2=("1", "x2")), told(r="p^2"),
        ))
        for m in (1, 2, 3):
            self.assertTrue(is_model(runs_of(model, m)))
        self.assertTrue(is_model(runs_of(GROWTH, 4)))
        self.assertEqual(runs_of(SMALL, 3), ((), ("p",), (), told(y1="p", y2="p", y3="p"), ()))

    def test_errors(self):
        for bad in (0, 5, -1, None, True, "2", (1,), [1]):
            with self.assertRaises(BadNumber) as caught:
                runs_of(FRACTION, bad)
            self.assertEqual(caught.exception.number, bad)
        for model, m in ((FRACTION, 3), (changed(GROWTH, 1, ("p", "q", "r", "s", "t")), 4)):
            with self.assertRaises(TooGreat) as caught:
                runs_of(model, m)
            self.assertEqual(caught.exception.what, "names")
        self.assertEqual(len(runs_of(changed(GROWTH, 1, ("p", "q", "r", "s")), 4)[0]), 4)
        for model, m, name in (
            ((told(abcdefgh="1"), (), (), told(y="abcdefgh"), ()), 1, "abcdefgh1"),
            ((told(x="1"), ("x2",), (), told(y="x"), ()), 2, "x2"), ((told(x="1"), ("x2",), (), told(y="x"), ()), 3, "x2"),
            ((told(x="1"), ("y1",), (), told(y="x"), ()), 1, "y1"),
            ((told(x="1"), ("p",), ("abcdefgh",), told(y="x", y1="x"), ()), 1, "abcdefgh1"),
            ((told(x="1"), ("y1", "x2"), (), told(y="x"), told(q="y1")), 2, "x2"),
            ((told(x="1"), ("p",), (), told(y="x"), told(y2="p")), 2, "y2"),
        ):
            self.assertTrue(is_model(model))
            with self.assertRaises(BadName) as caught:
                runs_of(model, m)
            self.assertEqual(caught.exception.name, name)
        self.assertEqual(runs_of((told(x="1"), ("x2",), (), told(y="x"), ()), 1)[1], ("x2",))
        # A quantity with letters of states is left out, so its name does not clash.
        left = runs_of((told(x="1"), ("p",), (), told(y="x"), told(y2="x")), 2)
        self.assertEqual(left[4], ())


if __name__ == "__main__":
    unittest.main()
