"""Points 65 to 68 and 71 as the heading ratesay/generic.py names them: general cases and what they tell."""

import unittest

from ratesay.errors import BadName, BadOutputs, BadRanking
from ratesay.finding import one_case, simple_backing
from ratesay.generic import (
    general_case, is_general, is_same, is_told, output_equation, same_equations, same_outputs, values_of,
)
from ratesay.models import holds_in_runs, input_output_ranking, ranking_for, ranking_over_parameters, runs_of, system_of
from ratesay.polynomials import UNIT, letter, plus, primitive, put, scaled, times
from ratesay.rankings import leader
from ratesay.rates import rate
from ratesay.remainders import whole_rest
from ratesay.simple import obligations
from ratesay.texts import read, text_of
from tests.helpers import ANYTHING, polys, random_polynomial, rng_of
from tests.test_models import GROWTH, SMALL, WHOLE, changed, told

SQUARE = (told(x="p^2*x"), ("p",), (), told(y="x"), ())
CHAIN = (told(x="-a*x", w="a*x - b*w"), ("a", "b"), (), told(y="w"), ())
PUSHED = (told(x="a*x + u"), ("a",), ("u",), told(y="b*x"), ())
PUSHED = changed(PUSHED, 1, ("a", "b"))
STEADY = (told(x="0"), (), (), told(y="x"), ())
TURNED = (told(x="0"), (), (), told(y=("1", "x")), ())
SLOPED = (told(x="0"), ("p", "q"), (), told(y="x", b="p*x + q"), ())
GIVEN = (told(x="x + u"), (), ("u",), told(y="x"), told(q=("x", "2")))
RANKING = (("x",), ("p",), ("y",))
GROWN = general_case(GROWTH, RANKING)


def light_model(rng, most=9):
    """A light model of one state."""
    names = ["x", *["p"][:rng.randint(0, 1)]]
    among = [(name, 0) for name in names]
    inputs = ("u",) if rng.random() < 0.3 else ()
    more = [*among, *[(u, 0) for u in inputs]]

    def some(letters, degree):
        while True:
            p = random_polynomial(rng, letters, degree, rng.randint(1, 3), most, True)
            if p:
                return p

    def bottom():
        return UNIT if rng.random() < 0.7 else letter("x", 0)

    states = (("x", (some(more, 2), bottom())),)
    outputs = (("y", (some(more, 1 if inputs else 2), bottom())),)
    quantities = (("q", (some(among, 2), bottom())),) if rng.random() < 0.3 else ()
    return (states, tuple(names[1:]), inputs, outputs, quantities)


def names_of_model(model):
    """All names of a model."""
    return [*[x for x, _ in model[0]], *model[1], *model[2], *[y for y, _ in model[3]], *[q for q, _ in model[4]]]


class GeneralCaseTest(unittest.TestCase):
    def check(self, model, ranking):
        found = general_case(model, ranking)
        self.assertIs(is_general(model, ranking, found), True)
        for p in found[0][0]:
            self.assertIs(holds_in_runs(model, p), True)
        for p in found[0][1]:
            self.assertIs(holds_in_runs(model, p), False)
        return found

    def rests(self, model, ranking, found, fs):
        for f in fs:
            rest = whole_rest(f, found[0][0], ranking)[1]
            self.assertIs(rest == (), holds_in_runs(model, f), text_of(f))

    def test_example(self):
        case, _, _ = GROWN
        self.assertEqual({primitive(p)[1] for p in case[0]}, {primitive(p)[1] for p in polys("y*y'' - y'^2", "y*p - y'", "x - y")})
        self.assertEqual(case[1], polys("y"))
        self.rests(GROWTH, RANKING, GROWN, polys("x' - p*x", "p'", "y - x", "y' - p*y", "x - 2*y", "p", "y''*y - y'^2", "y'''*y^2 - y'^3"))

    def test_rankings(self):
        rng = rng_of(6)
        for model in (GROWTH, SQUARE, CHAIN, PUSHED, STEADY, TURNED, SLOPED, GIVEN, SMALL):
            names = names_of_model(model)
            mixed = names[:]
            rng.shuffle(mixed)
            cut = rng.randint(1, len(mixed) - 1) if len(mixed) > 1 else 1
            parted = tuple(block for block in (tuple(mixed[:cut]), tuple(mixed[cut:])) if block)
            rankings = [input_output_ranking(model), ranking_over_parameters(model), (tuple(names),), parted]
            rankings.append(tuple((name,) for name in mixed))
            for ranking in rankings:
                found = self.check(model, ranking)
                fs = [random_polynomial(rng, [(name, 0) for name in names], 2, 3, 3, True) for _ in range(4)]
                fs.extend([rate(f) for f in found[0][0]])
                self.rests(model, ranking, found, fs)

    def test_light_models(self):
        rng = rng_of(7)
        for _ in range(14):
            model = light_model(rng)
            for ranking in (input_output_ranking(model), ranking_over_parameters(model), ranking_for(model, "x")):
                self.check(model, ranking)

    def test_fractions(self):
        self.check(WHOLE, input_output_ranking(WHOLE))

    def test_other_cases(self):
        case, backing, home = GROWN
        other = one_case(system_of(GROWTH), RANKING, lambda p: holds_in_runs(GROWTH, p))
        self.assertIs(is_general(GROWTH, RANKING, other), True)
        self.assertIs(is_general(GROWTH, RANKING, (case, simple_backing(case, RANKING), home)), True)
        self.assertIs(is_general(GROWTH, RANKING, (case, other[1], home)), other[0] == case)
        steps, trees = home
        for wrong in [*ANYTHING, (case, backing), (*GROWN, 0), list(GROWN), (case, backing[:-1], home), (case, (), home),
                      (case, backing[::-1], home), (case, backing, (steps, ((),))), (case, backing, (steps[:-1], trees)),
                      (case, backing, None), (case, backing, home[::-1]), (case, backing, (steps[::-1], trees)),
                      ((case[0], ()), backing, home), ((case[0][:-1], case[1]), backing, home), (case[::-1], backing, home),
                      (((), case[1]), (), home), ((case[0], (*case[1], read("y*y'' - y'^2"))), backing, home),
                      ((case[0], (*case[1], read("x - y"))), backing, home)]:
            self.assertIs(is_general(GROWTH, RANKING, wrong), False, wrong)
        for at in range(len(case[0])):
            bent = (*case[0][:at], plus(case[0][at], UNIT), *case[0][at + 1:])
            self.assertIs(is_general(GROWTH, RANKING, ((bent, case[1]), backing, home)), False)

    def test_special_cases_are_not_general(self):
        # y = 0 is a simple case of the system, too.
        equations = polys("y", "p'", "x - y")
        other = one_case(system_of(GROWTH), RANKING, lambda p: whole_rest(p, equations, RANKING)[1] == ())
        self.assertEqual({leader(p, RANKING) for p in other[0][0]}, {("y", 0), ("p", 1), ("x", 0)})
        self.assertIs(is_general(GROWTH, RANKING, other), False)

    def test_high_orders(self):
        # The case lies within the runs, but a letter has the order 9.
        model = (told(x="0"), (), ("u",), told(y="x"), ())
        ranking = input_output_ranking(model)
        case, backing, home = general_case(model, ranking)
        for k, right in ((8, True), (9, False)):
            more = (case[0], (*case[1], letter("u", k)))
            self.assertIs(is_general(model, ranking, (more, (*backing, plain(more, ranking)), home)), right)

    def test_errors(self):
        for ranking in [*ANYTHING, (("x",), ("p",)), (("x", "p"), ("y", "z")), (("x", "p", "y"), ()), [("x", "p", "y")],
                        (("x", "p", "y", "x"),), (("x", "p"), ("y",), ("u",))]:
            self.assertRaises(BadRanking, general_case, GROWTH, ranking)
            self.assertRaises(BadRanking, is_general, GROWTH, ranking, GROWN)


def plain(case, ranking):
    """A tree for the last obligation of a case whose last inequation is a letter: its initial is 1."""
    system = obligations(case, ranking)[-1][2]
    return (((), ("contradiction", len(system[0]) - 1, ())),)


class OutputTest(unittest.TestCase):
    def test_known_equations(self):
        for model, text in ((GROWTH, "y' - p*y"), (SQUARE, "y' - p^2*y"), (STEADY, "y'"), (TURNED, "y'"), (GIVEN, "y' - y - u"),
                            (CHAIN, "y'' + a*y' + b*y' + a*b*y"), (PUSHED, "y' - a*y - b*u"), (SMALL, "y - p"),
                            ((told(x="x^2"), (), (), told(y="x^2"), ()), "y'^2 - 4*y^3"),
                            ((told(x="1"), (), (), told(y="x^2"), ()), "y'^2 - 4*y"),
                            ((told(x=("1", "x")), (), (), told(y="x"), ()), "y*y' - 1"),
                            ((told(x=("p*x", "x + 1")), ("p",), (), told(y="x"), ()), "y*y' + y' - p*y"),
                            ((told(x="w", w="-x"), (), (), told(y="x + w"), ()), "y'' + y"),
                            ((told(x="w", w="u"), (), ("u",), told(y="2*x"), ()), "y'' - 2*u"),
                            ((told(x="x*u"), (), ("u",), told(y="x"), ()), "y' - y*u"),
                            ((told(x="u"), (), ("u",), told(y="x*u"), ()), "u*y' - u'*y - u^3"),
                            ((told(x="1"), (), (), told(y="3"), ()), "y - 3"),
                            ((told(x="1"), ("p",), (), told(y=("p", "2*p + 1")), ()), "2*p*y + y - p")):
            e = output_equation(model)
            self.assertEqual(e, primitive(read(text))[1], text_of(e))
            self.assertIs(holds_in_runs(model, e), True)

    def test_other_states(self):
        # The same outputs, the state being changed.
        rng = rng_of(8)
        for _ in range(8):
            model = light_model(rng, 4)
            change = ((("x", 0), read("2*x + 3")),)
            rows = [(name, (put(n, change), put(d, change))) for name, (n, d) in (model[0] + model[3])]
            half = (("x", (scaled(rows[0][1][0], (1, 2)), rows[0][1][1])),)
            other = (half, model[1], model[2], tuple(rows[1:]), ())
            self.assertEqual(output_equation(model), output_equation(other))

    def test_errors(self):
        self.assertRaises(BadOutputs, output_equation, SLOPED)
        self.assertRaises(BadOutputs, output_equation, WHOLE[:3] + (told(y="x", z="x"), ()))


class ValuesTest(unittest.TestCase):
    def test_numbers_of_values(self):
        for model, z, d in ((GROWTH, "p", 1), (GROWTH, "x", 1), (SQUARE, "p", 2), (SQUARE, "x", 1), (SLOPED, "x", 1), (SLOPED, "p", None),
                            (SLOPED, "q", None), (STEADY, "x", 1), (GIVEN, "q", 1), (CHAIN, "a", 2), (PUSHED, "b", 1),
                            ((told(x="0"), (), (), told(y="x^3"), ()), "x", 3), ((told(x="0"), ("p",), (), told(y="x"), ()), "p", None),
                            ((told(x="x"), ("p",), (), told(y="p*x"), told(q="p^2*x^2")), "q", 1),
                            ((told(x="x"), ("p",), (), told(y="p*x"), told(q="p + x")), "q", None)):
            found, value = values_of(model, z)
            ranking = ranking_for(model, z)
            self.assertEqual(found, d)
            self.assertIs(is_general(model, ranking, value), True)
            leading = [p for p in value[0][0] if leader(p, ranking) == (z, 0)]
            self.assertEqual(len(leading), 0 if d is None else 1)

    def test_is_told(self):
        for model, z, s, r, right in ((GROWTH, "p", "y", "y'", True), (GROWTH, "p", "2*y", "2*y'", True), (GROWTH, "p", "y'", "y''", True),
                                      (GROWTH, "p", "y", "y", False), (GROWTH, "p", "0", "0", False), (GROWTH, "x", "1", "y", True),
                                      (GROWTH, "p", "y*y'' - y'^2", "0", False), (GROWTH, "x", "1", "x", False),
                                      (GROWTH, "p", "x", "x'", False), (GROWTH, "p", "p", "p^2", False), (SQUARE, "p", "y", "y'", False),
                                      (GROWTH, "p", "z", "z'", False), (GROWTH, "x", "1", "y + w - w", True), (GIVEN, "q", "2", "y", True),
                                      (GIVEN, "x", "u", "u*y' - u^2", True), (GIVEN, "q", "u'", "1/2*y*u'", True),
                                      (GIVEN, "q", "q", "q^2", False)):
            self.assertIs(is_told(model, z, read(s), read(r)), right, (z, s, r))

    def test_errors(self):
        for z in [*[v for v in ANYTHING if v != "x"], "y", "u", "w", "P"]:
            with self.assertRaises(BadName) as caught:
                values_of(GIVEN, z)
            self.assertEqual(caught.exception.name, z)
            self.assertRaises(BadName, is_told, GIVEN, z, read("w"), read("w"))


class TwoModelsTest(unittest.TestCase):
    def pair(self, first, second, word):
        paper = same_equations(first, second)
        self.assertEqual(paper[0], word)
        self.assertEqual(is_same(first, second, paper), word)
        if word == "unlike":
            f = paper[1]
            self.assertIs(holds_in_runs(first, f) != holds_in_runs(second, f), True)
            self.assertEqual(is_same(second, first, paper), "unlike")
        else:
            self.assertEqual(is_same(second, first, (word, paper[2], paper[1])), "same")
        return paper

    def test_example(self):
        self.pair(STEADY, TURNED, "same")
        self.assertIs(same_outputs(STEADY, TURNED), False)
        self.assertIs(same_outputs(STEADY, STEADY), True)

    def test_other_models(self):
        self.pair(GROWTH, SQUARE, "same")
        self.assertIs(same_outputs(GROWTH, SQUARE), True)
        grown = (told(z="3*z*(k + 1)"), ("k",), (), told(y="z"), ())
        self.pair(GROWTH, grown, "same")
        self.assertIs(same_outputs(GROWTH, grown), True)
        self.pair(GROWTH, (told(x="2*x"), ("p",), (), told(y="x"), ()), "unlike")
        self.assertIs(same_outputs(GROWTH, (told(x="2*x"), ("p",), (), told(y="x"), ())), False)
        product = (told(x="a*b*x"), ("a", "b"), (), told(y="x"), ())
        self.pair(GROWTH, product, "same")
        self.pair(PUSHED, (told(x="a*x + b*u"), ("a", "b"), ("u",), told(y="x"), ()), "same")
        self.pair(GIVEN, (told(x="x + 2*u"), (), ("u",), told(y=("x", "2")), ()), "same")
        self.pair(GIVEN, (told(x="x + 2*u"), (), ("u",), told(y="x"), ()), "unlike")
        self.assertIs(same_outputs(SMALL, STEADY), True)
        self.assertIs(same_outputs(STEADY, (told(x="0"), (), (), told(y="x^2"), ())), True)
        self.assertIs(same_outputs(STEADY, (told(x="0"), (), (), told(y=("x^2 - 1", "x")), ())), True)

    def test_same_outputs_of_changed_models(self):
        rng = rng_of(18)
        for _ in range(6):
            model = light_model(rng, 4)
            model = (model[0], model[1], (), model[3], ()) if not model[2] else None
            if model is None:
                continue
            change = ((("x", 0), read("-2*x")), *[((p, 0), read(f"{p} + 1")) for p in model[1]])
            state, output = [(put(n, change), put(d, change)) for _, (n, d) in (model[0][0], model[3][0])]
            other = ((("x", (scaled(state[0], (-1, 2)), state[1])),), model[1], (), (("y", output),), ())
            self.assertIs(same_outputs(model, other), True)
            # The output 0 may belong to runs of just one of them.
            nowhere = (model[0], model[1], (), (("y", (plus(times(output[0], output[0]), UNIT), UNIT)),), ())
            if same_equations(model, nowhere)[0] == "unlike":
                self.assertIs(same_outputs(model, nowhere), False)

    def test_outputs_that_differ_at_single_runs(self):
        for first, second, right in (("x^2", "x", True), (("1", "x"), "x", False), (("x^2 + 1", "x"), "x", True), (("x - 1", "x"), "x", False),
                                     (("x", "x^2 + 1"), "x", True), ("x^3 - x", "x + 5", True)):
            models = [(told(x="0"), (), (), told(y=text), ()) for text in (first, second)]
            self.assertIs(same_outputs(*models), right, (first, second))
            self.assertIs(same_outputs(*models[::-1]), right)
        for first, second, right in (("p^2*x", "p*x", True), ("p^2*x + x", "p*x", True), ("p*x", "p*x + x", True)):
            models = [(told(x=text), ("p",), (), told(y="x"), ()) for text in (first, second)]
            self.assertIs(same_outputs(*models), right)
        # y = 0 has no run of the second one.
        quotients = [(told(x="p*x"), ("p",), (), told(y=row), ()) for row in ("x", ("1", "x"))]
        self.assertEqual(same_equations(*quotients)[0], "same")
        self.assertIs(same_outputs(*quotients), False)

    def test_another_order(self):
        first = (told(x="u*x + v"), ("p",), ("u", "v"), told(y="x", z="p*x"), ())
        second = (told(w="u*w + p*v"), ("p",), ("v", "u"), told(z="w", y=("w", "p")), ())
        self.pair(first, second, "same")

    def test_bent_papers(self):
        paper = same_equations(GROWTH, SQUARE)
        for wrong in [*ANYTHING, ("same",), paper[:2], (*paper, 0), list(paper), ("unlike", *paper[1:]), ("same", paper[2], paper[1]),
                      ("same", None, paper[2]), ("same", paper[1], None), ("unlike", read("y*y'' - y'^2")), ("unlike", read("x")),
                      ("unlike", read("w")), ("unlike", ()), ("unlike", read("y[9]")), ("unlike", None), ("unlike", 1), paper[1:]]:
            self.assertIsNone(is_same(GROWTH, SQUARE, wrong), wrong)
        other = (told(x="2*x"), ("p",), (), told(y="x"), ())
        self.assertEqual(is_same(GROWTH, other, ("unlike", read("y' - 2*y"))), "unlike")
        self.assertEqual(is_same(GROWTH, other, ("unlike", read("y[8] - 2*y[7]"))), "unlike")
        self.assertIsNone(is_same(GROWTH, other, ("unlike", read("y[9] - 2*y[8]"))))
        self.assertIsNone(is_same(GROWTH, other, ("unlike", read("y*y'' - y'^2"))))
        self.assertIsNone(is_same(GROWTH, other, ("unlike", read("y' - p*y"))))
        self.assertIsNone(is_same(GROWTH, other, ("same", GROWN, GROWN)))
        alone = same_equations(other, other)
        self.assertIsNone(is_same(GROWTH, other, ("same", paper[1], alone[1])))

    def test_errors(self):
        for other in (SLOPED, GIVEN, (told(x="0"), (), (), told(z="x"), ()), (told(x="0"), (), ("u",), told(y="x"), ())):
            self.assertRaises(BadOutputs, same_equations, GROWTH, other)
            self.assertRaises(BadOutputs, is_same, GROWTH, other, None)
            self.assertRaises(BadOutputs, same_outputs, GROWTH, other)

    def test_several_runs(self):
        two = runs_of(GROWTH, 2)
        found = general_case(two, input_output_ranking(two))
        self.assertIs(is_general(two, input_output_ranking(two), found), True)
        self.assertIs(whole_rest(read("y1'*y2 - y1*y2'"), found[0][0], input_output_ranking(two))[1] == (), True)


if __name__ == "__main__":
    unittest.main()
