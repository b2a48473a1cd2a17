"""Judges beside a second judge, on right papers and on papers with one part changed."""

import unittest

from ratesay.conditions import union_of_system
from ratesay.finding import cases_of
from ratesay.formulas import eliminate, free_names, is_decision, union_of
from ratesay.errors import BadPaper, TooGreat
from ratesay.polynomials import number
from ratesay.series import are_rates, rates_of
from ratesay.sets import emptiness, is_emptiness
from ratesay.starts import follows, is_following, is_start, start_of
from ratesay.told import counts, freedom, is_counts, is_freedom, is_told_by, told_by
from tests import kinds, second
from tests.helpers import rng_of, system
from tests.kinds import polynomial_of, question
from tests.test_trees import mutated

ONE = number((1, 1))


class SecondJudgeTest(unittest.TestCase):
    def test_starts(self):
        rng = rng_of(40)
        seen = {True: 0, False: 0}
        for kind in kinds.KINDS:
            for _ in range(12):
                pair, told = question(rng, kind)
                for case in cases_of(pair, told)[0][:2]:
                    start, _ = start_of(case, told, ONE)
                    for value in [start, *[mutated(rng, start) for _ in range(12)]]:
                        answer = is_start(case, told, value)
                        self.assertIs(answer, second.table_of(case, told, value) is not None, value)
                        seen[answer] += 1
        self.assertGreater(min(seen.values()), 50)

    def test_papers(self):
        rng = rng_of(43)
        seen = {True: 0, False: 0}
        for kind in kinds.KINDS:
            for _ in range(15):
                pair, told = question(rng, kind)
                names = sorted({name for block in told for name in block})
                f = ONE if kind == "F5" else polynomial_of(rng, pair, names)
                word, paper = follows(pair, f, told)
                if word == "yes":
                    continue
                for value in [paper, *[mutated(rng, paper) for _ in range(15)]]:
                    answer = is_following(pair, f, told, ("no", value))
                    self.assertIs(answer, second.is_refusal(pair, f, told, value), value)
                    seen[answer] += 1
        self.assertGreater(min(seen.values()), 30)


class MutationTest(unittest.TestCase):
    """No value, whatever it is, makes a judge raise an error that it does not tell."""

    def changed(self, rng, value, count=40):
        return [other for other in [mutated(rng, value) for _ in range(count)] if other != value]

    def test_answers(self):
        rng = rng_of(1)
        pair = system(["x'^2 - 4*x"], ["x"])
        told = follows(pair, system(["x'' - 2"])[0][0], (("x",),))
        for value in self.changed(rng, told, 200):
            self.assertIn(is_following(pair, system(["x'' - 2"])[0][0], (("x",),), value), (True, False))
        for x, ys in (("x", ("y",)), ("y", ("x",))):
            pair = system(["x' - y"])
            for value in self.changed(rng, told_by(pair, x, ys), 100):
                self.assertIn(is_told_by(pair, x, ys, value), (True, False))

    def test_rows(self):
        rng = rng_of(2)
        case = system(["x - y''"])
        told = (("x",), ("y",))
        start, _ = start_of(case, told, ONE)
        rows = rates_of(case, told, start, (("y", (ONE, ONE)),), 3)
        for value in self.changed(rng, rows, 300):
            self.assertIn(are_rates(case, told, start, (("y", (ONE, ONE)),), value), (True, False))

    def test_papers_of_unions(self):
        rng = rng_of(3)
        union = union_of_system(system(["x^2 - y"])) + union_of_system(system(["x*y - 1"]))
        for value in self.changed(rng, emptiness(union), 100):
            self.assertIn(is_emptiness(union, value), (True, False))
        for value in self.changed(rng, counts(union, "x", ("y",)), 150):
            self.assertIn(is_counts(union, "x", ("y",), value), (True, False))
        pair = system(["x*y", "x' - 1"])
        for value in self.changed(rng, freedom(pair, ("x", "y")), 150):
            self.assertIn(is_freedom(pair, ("x", "y"), value), (True, False))

    def test_papers_of_formulas(self):
        rng = rng_of(4)
        for _ in range(25):
            f = kinds.formula(rng)
            union, paper = eliminate(f)
            for value in self.changed(rng, paper, 12):
                try:
                    found = union_of(f, value)
                except (BadPaper, TooGreat):
                    found = None
                if f[0] in ("some", "all") and union in ((), (((), ()),)) and not free_names(f):
                    self.assertIs(is_decision(f, union == (((), ()),), value), found == union)


if __name__ == "__main__":
    unittest.main()
