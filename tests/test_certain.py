"""Points 65 to 71: what is told of the general run is right for all numbers, however great or chosen."""

import unittest

from ratesay.certain import is_zero_at_run
from ratesay.errors import TooMany
from ratesay.finding import one_case
from ratesay.generalruns import Run
from ratesay.generic import general_case, is_general, is_same, is_told, output_equation, same_equations, same_outputs, values_of
from ratesay.grids import count_points, exponents_in, is_zero_by_grid
from ratesay.homes import is_home
from ratesay.homing import is_led_away
from ratesay.members import members_of
from ratesay.models import holds_in_runs, input_output_ranking, ranking_for, system_of
from ratesay.observed import is_observed, observed
from ratesay.polynomials import UNIT, letters_of, plus, scaled, times
from ratesay.primes import GREAT as GREATEST, Primes, great_primes
from ratesay.rankings import places_of
from ratesay.ranktest import bracket, is_free
from ratesay.samples import Sample, Setting, fixed_value
from ratesay.sizes import Sizes, power_of, size_of
from ratesay.texts import read, text_of
from ratesay.triangles import leaders_of
from ratesay.wide import is_case_of_run, may_be_general
from tests.helpers import polys, random_polynomial, rng_of
from tests.test_generic import GIVEN, GROWTH, PUSHED, SLOPED, SQUARE, STEADY, light_model
from tests.test_models import SMALL, WHOLE, told

PRIMES = [2 ** 61 - 1, 2 ** 89 - 1, 2 ** 107 - 1, 2 ** 127 - 1]
ALL = PRIMES[0] * PRIMES[1] * PRIMES[2] * PRIMES[3]
GREAT = PRIMES[0] * (2 ** 521 - 1)


def still(text):
    """The model x' = 0 with one output."""
    return (told(x="0"), (), (), told(y=text), ())


def points_of(model, count):
    """The values of x at the points that are tried first."""
    found = []
    primes = Primes(0)
    for seed in range(count):
        p = primes.another()
        found.append((Sample(Setting(model, p), seed, {}).worth(("x", 0)), p))
    return found


class PrimesTest(unittest.TestCase):
    def test_primes(self):
        self.assertEqual(great_primes(0), [2 ** e - k for e, k in GREATEST])
        self.assertEqual(great_primes(128)[0], 2 ** 192 - 237)
        for p in great_primes(0):
            self.assertEqual(p % 4, 3)
        primes = Primes(0)
        found = [primes.another() for _ in range(14)]
        self.assertEqual(len(set(found)), 14)
        for p in found:
            self.assertEqual(pow(3, p - 1, p), 1)
            self.assertEqual(pow(5, p - 1, p), 1)
        for p in great_primes(0):
            if p.bit_length() < 5000:
                self.assertEqual(pow(3, p - 1, p), 1)


class ZeroTest(unittest.TestCase):
    def test_known_ones(self):
        rng = rng_of(90)
        for model in (GROWTH, SQUARE, PUSHED, STEADY, SLOPED, GIVEN, SMALL, WHOLE):
            ranking = input_output_ranking(model)
            names = [name for block in ranking for name in block]
            fs = [*system_of(model)[0], *general_case(model, ranking)[0][0]]
            fs.extend([times(f, random_polynomial(rng, [(name, 1) for name in names], 2, 3, 9, True)) for f in fs])
            fs.extend([plus(f, UNIT) for f in fs[:4]])
            for f in fs:
                self.assertIs(is_zero_at_run(model, f, ranking), holds_in_runs(model, f), text_of(f))
                size = Sizes(model).value(f)
                if size is not None and count_points(size) < 2000:
                    self.assertIs(is_zero_by_grid(model, f, size), holds_in_runs(model, f), text_of(f))

    def test_sizes_are_bounds(self):
        rng = rng_of(91)
        for _ in range(12):
            model = light_model(rng)
            names = ["x", "y", *model[1], *model[2]]
            f = random_polynomial(rng, [(rng.choice(names), rng.randint(0, 3)) for _ in range(3)], 3, 4, 99, True)
            size = Sizes(model).value(f)
            n, _ = Run(model).value(f)
            if not n:
                continue
            # The value that is worked out may have lost denominators.
            for v in letters_of(n):
                self.assertGreaterEqual(size[0][v], max(dict(monomial).get(v, 0) for monomial, _ in n))
            self.assertGreaterEqual(size[0][()], max(sum(e for _, e in monomial) for monomial, _ in n))
            self.assertEqual(count_points(size), len(exponents_in(size)))

    def test_sizes_of_1_are_made_anew(self):
        sizes = Sizes(still("x"))
        one = ({(): 0}, 1, 1)
        for make in (lambda: power_of(None, 0), lambda: power_of(size_of(read("x^2 - 1/2")), 0), lambda: sizes.bottom(())):
            found = make()
            self.assertEqual(found, one)
            found[0][("x", 0)] = 1
            self.assertEqual(make(), one)
        self.assertEqual(power_of(size_of(read("x^2 - 1/2")), 2), ({(): 4, ("x", 0): 4}, 9, 4))
        self.assertIsNone(power_of(None, 1))

    def test_polynomials_that_are_0_at_chosen_points(self):
        model = still("x")
        f = UNIT
        for x, p in points_of(model, 6):
            f = times(f, read(f"y - {x}"))
        for more in (UNIT, read(str(ALL)), read(f"{ALL}*y")):
            q = times(f, more)
            self.assertIs(is_zero_at_run(model, q, input_output_ranking(model)), False)
            self.assertIs(is_zero_at_run(model, times(q, read("y'")), input_output_ranking(model)), True)

    def test_grids_tell_zeros_at_their_own_points(self):
        # A size that is too little would let a polynomial be 0 at all points of the grid.
        model = still("x")
        p = 2 ** 61 - 1
        base = fixed_value(1, 0, 0, p)
        f = times(read(f"x - {base}"), read(f"x - {base + 1}"))
        self.assertIs(is_zero_by_grid(model, f, Sizes(model).value(f)), False)


class ToldTest(unittest.TestCase):
    def test_great_numbers(self):
        model = still("x")
        for n in (*PRIMES, ALL, GREAT):
            self.assertIs(is_told(model, "x", UNIT, read(f"{n + 1}*y")), False)
            self.assertIs(is_told(model, "x", read(str(n)), read(f"{n}*y")), True)
            self.assertIs(is_told(still(f"{n}*x"), "x", read(str(n)), read("y")), True)
            self.assertIs(is_told(still(f"{n}*x"), "x", read(str(n)), read("2*y")), False)
            self.assertIs(is_told(still(f"1/{n}*x"), "x", UNIT, read(f"{n}*y")), True)

    def test_chosen_points(self):
        model = still("x")
        f = UNIT
        for x, _ in points_of(model, 5):
            f = times(f, read(f"y - {x}"))
        self.assertIs(is_told(model, "x", UNIT, plus(read("y"), f)), False)
        self.assertIs(is_told(model, "x", f, times(read("y"), f)), True)
        self.assertIs(is_told(model, "x", read("y'"), ()), False)

    def test_what_values_of_tells(self):
        rng = rng_of(92)
        for _ in range(8):
            model = light_model(rng)
            d, value = values_of(model, "x")
            places = places_of(ranking_for(model, "x"))
            for p in value[0][0]:
                if d == 1 and ("x", 0) in letters_of(p) and places["x"] == max(places[v[0]] for v in letters_of(p)):
                    s = tuple(((m[:-1] if m[-1] == (("x", 0), 1) else m), f) for m, f in p if (("x", 0), 1) in m)
                    r = scaled(tuple(row for row in p if (("x", 0), 1) not in row[0]), (-1, 1))
                    s = tuple(sorted((tuple(v for v in m if v[0] != ("x", 0)), f) for m, f in s))
                    if all(v[0] in ("y", "u") for v in (*letters_of(s), *letters_of(r))):
                        self.assertIs(is_told(model, "x", s, r), True)
                        self.assertIs(is_told(model, "x", s, plus(r, UNIT)), False)


class GeneralCaseTest(unittest.TestCase):
    def test_other_cases_are_refused(self):
        # The runs with y = 0 alone, for each great number.
        model = still("x")
        ranking = input_output_ranking(model)
        other = one_case(system_of(model), ranking, lambda p: p in polys("y", "x - y", "x", "y - x"))
        for n in (1, *PRIMES, ALL):
            case = ((scaled(read("y"), (n, 1)), read("-x + y")), ())
            step = (0, 1, 0, ((((), (1, n))),))
            home = ((((1, 1, 0, read("-1")), step), ((1, 0, 0, UNIT),)), ())
            self.assertIs(is_home(case, ranking, system_of(model), home), True)
            self.assertIs(is_general(model, ranking, (case, other[1], home)), False)

    def test_rankings_with_inputs_above(self):
        # Cases that are told by points, as the inputs lead.
        for model in (GIVEN, (told(x="u"), (), ("u",), told(y="x"), ()), (told(x="u*x"), ("p",), ("u",), told(y="p*x"), ()),
                      (told(x="w", w="u^2"), (), ("u",), told(y="x"), ())):
            names = [name for block in input_output_ranking(model) for name in block]
            for ranking in ((("u",), tuple(name for name in names if name != "u")), tuple((name,) for name in names[::-1])):
                found = general_case(model, ranking)
                self.assertIs(is_general(model, ranking, found), True)
                self.assertIs(is_case_of_run(model, ranking, found[0]), True)
        model = (told(x="u"), (), ("u",), told(y="x"), ())
        ranking = (("u",), ("x", "y"))
        for p in polys("x'", "x' - 1", "x''"):
            # u = 0, u = 1, u' = 0: runs, but not all of them.
            case = one_case((system_of(model)[0] + (p,), ()), ranking, lambda q: False)
            if case is not None:
                self.assertIs(is_general(model, ranking, case), False)
                self.assertIs(may_be_general(model, members_of(case[0][0], places_of(ranking))), False)

    def test_great_models(self):
        for n in (*PRIMES, ALL, GREAT):
            model = (told(x=f"{n}*x"), (), (), told(y="x"), ())
            ranking = input_output_ranking(model)
            try:
                self.assertIs(is_general(model, ranking, general_case(model, ranking)), True)
                self.assertEqual(output_equation(model), read(f"y' - {n}*y"))
            except TooMany:
                self.assertGreater(n, 2 ** 127)

    def test_equations_are_led_away(self):
        for model in (GIVEN, PUSHED, SQUARE):
            ranking = input_output_ranking(model)
            places = places_of(ranking)
            members = members_of(general_case(model, ranking)[0][0], places)
            for f in system_of(model)[0]:
                self.assertIs(is_led_away(f, members, places), True)
                self.assertIs(is_led_away(plus(f, UNIT), members, places), False)

    def test_leaders(self):
        self.assertEqual([v for v, _ in leaders_of(SQUARE, input_output_ranking(SQUARE))], [("y", 2), ("p", 0), ("x", 0)])


class TwoModelsTest(unittest.TestCase):
    def test_great_numbers(self):
        for n in (*PRIMES, ALL, GREAT):
            first, second = (told(x=f"{n}*x"), (), (), told(y="x"), ()), still("x")
            for pair in ((first, second), (second, first)):
                self.assertEqual(is_same(*pair, ("unlike", read("y'"))), "unlike")
                self.assertEqual(is_same(*pair, ("unlike", read(f"{n}*y'"))), "unlike")
                self.assertEqual(is_same(*pair, ("unlike", read(f"y' - {n}*y"))), "unlike")
                self.assertIsNone(is_same(*pair, ("unlike", read(f"y' - {n + 1}*y"))))
                self.assertIsNone(is_same(*pair, ("unlike", read(f"{n}*y"))))
                self.assertIsNone(is_same(*pair, ("unlike", read(f"y*y'' - y'^2"))))
                try:
                    self.assertEqual(same_equations(*pair)[0], "unlike")
                    self.assertIs(same_outputs(*pair), False)
                except TooMany:
                    self.assertGreater(n, 2 ** 127)

    def test_a_model_and_itself(self):
        for n in (*PRIMES, ALL):
            for model in ((told(x=("1", f"{n}*x")), (), (), told(y="x"), ()), (told(x=f"{n}*x + {n}"), (), (), told(y=("x", f"{n}")), ())):
                try:
                    paper = same_equations(model, model)
                    self.assertEqual(paper[0], "same")
                    self.assertEqual(is_same(model, model, paper), "same")
                    self.assertIs(same_outputs(model, model), True)
                except TooMany:
                    self.assertGreater(n, 2 ** 127)

    def test_chosen_points(self):
        first = still("x")
        second = (told(w="0", x="0"), (), (), told(y="x"), ())
        f = UNIT
        for model in (first, second):
            for x, _ in points_of(model, 4):
                f = times(f, read(f"y - {x}"))
        for pair in ((first, second), (second, first)):
            self.assertIsNone(is_same(*pair, ("unlike", f)))
            self.assertIsNone(is_same(*pair, ("unlike", times(f, read("y'")))))
        other = (told(x="1"), (), (), told(y="x"), ())
        self.assertEqual(is_same(first, other, ("unlike", times(f, read("y'")))), "unlike")

    def test_papers_of_others(self):
        # The equations of the one hold for the other, which has more of them.
        first, second = (told(x="0"), ("p",), (), told(y="x + p", z="p"), ()), (told(x="0"), ("p",), (), told(y="x", z="x"), ())
        cases = [general_case(model, input_output_ranking(model)) for model in (first, second)]
        self.assertIsNone(is_same(first, second, ("same", *cases)))
        self.assertIsNone(is_same(second, first, ("same", *cases[::-1])))
        self.assertEqual(is_same(first, first, ("same", cases[0], cases[0])), "same")
        self.assertEqual(is_same(first, second, same_equations(first, second)), "unlike")


class RankTest(unittest.TestCase):
    def test_great_outputs(self):
        for n in (*PRIMES, ALL, GREAT):
            model = still(f"{n}*x")
            self.assertEqual(is_observed(model, "x", ("finite", read(str(n)), ((("y", 0), UNIT),))), "finite")
            self.assertIsNone(is_observed(model, "x", ("free", (UNIT,))))
            self.assertIsNone(is_observed(model, "x", ("finite", UNIT, ((("y", 0), UNIT),))))
            try:
                self.assertEqual(observed(model, "x")[0], "finite")
            except TooMany:
                self.assertGreater(n, 2 ** 127)
            self.assertIsNone(is_observed(still("x"), "x", ("finite", UNIT, ((("y", 0), read(str(n + 1))),))))

    def test_vectors(self):
        model = (told(x="0"), ("p",), (), told(y="x"), ())
        for n in (*PRIMES, ALL):
            self.assertIsNone(is_observed(model, "p", ("free", (read(str(n)), UNIT))))
            self.assertEqual(is_observed(model, "p", ("free", ((), read(str(n))))), "free")
            self.assertIsNone(is_observed(model, "x", ("free", ((), read(str(n))))))

    def test_later_rates(self):
        # The first rates of the output do not change along the vector, later ones do.
        model = (told(v="p*k", w="v", x="w"), ("k", "p"), (), told(y="x"), ())
        self.assertIs(is_free(model, "p", polys("0", "0", "0", "k", "-p")), True)
        self.assertIs(is_free(model, "k", polys("0", "0", "0", "k^2", "-p*k")), True)
        self.assertIs(is_free(model, "p", polys("0", "0", "0", "k", "p")), False)
        self.assertIs(is_free(model, "p", polys("0", "0", "0", "0", "1")), False)
        self.assertIs(is_free(model, "v", polys("1", "0", "0", "0", "0")), False)
        self.assertEqual(bracket(model, Run(model), polys("0", "0", "0", "k", "-p")), [(), (), (), (), ()])
        f = UNIT
        for x, _ in points_of(model, 3):
            f = times(f, read(f"x - {x}"))
        self.assertIs(is_free(model, "p", (*polys("0", "0", "0"), read("k"), plus(read("-p"), f))), False)

    def test_light_fractions(self):
        one = (told(x=("5*p*w", "5"), w="-p*w - 3*p*x"), ("p", "q"), (), told(y=("-9*w^2 - x", "-8*p*x - 5*q")), ())
        for z in ("x", "w", "p", "q"):
            paper = observed(one, z)
            self.assertEqual(is_observed(one, z, paper), "finite")
            s = plus(paper[1], scaled(UNIT, (ALL, 1)))
            self.assertIsNone(is_observed(one, z, ("finite", s, paper[2])))
        two = (told(x=("p*q - p^2", "-8 - w*x + x"), w=("1 + 4*q*w + 3*x", "9 + 5*p")), ("p", "q"), (), told(y="-3*w*x"), ())
        self.assertEqual(is_observed(two, "x", observed(two, "x")), "finite")
        three = (told(x=("2 - p*w", "x"), w="p*x"), ("p", "q", "r"), (), told(y=("q*x", "r")), ())
        for z in ("x", "p", "q"):
            paper = observed(three, z)
            self.assertEqual(is_observed(three, z, paper), paper[0])


if __name__ == "__main__":
    unittest.main()
