"""Points 38, 43, 44: what follows, with trees and papers."""

import unittest

from ratesay.errors import BadPolynomial, BadRanking, BadSystem
from ratesay.finding import cases_of
from ratesay.members import members_of
from ratesay.polynomials import letter, number, plus, power, scaled, times
from ratesay.rankings import places_of
from ratesay.rates import rates
from ratesay.simple import holds_in
from ratesay.starts import follows, is_following
from ratesay.texts import read
from ratesay.trees import is_shown
from tests import kinds, reference
from tests.helpers import ANYTHING, NO_POLYNOMIALS, polys, rng_of, system
from tests.kinds import polynomial_of, question
from tests.test_rankings import NO_RANKINGS
from tests.test_towers import tower
from tests.test_trees import SHOWN

X = (("x",),)
XY = (("x", "y"),)
ONE = number((1, 1))
SQUARE = system(["x'^2 - 4*x"])
GOAL = read("x'' - 2")
ZERO_START = ((), ((("x", 0), ()), (("x", 1), ()), (("x", 2), ())), polys("1"), ())
ZERO_HOMES = ((ONE, ((0, 0, read("-4")), (0, 1, read("x'"))), ONE),)
NO = ("no", ((polys("x"), ()), ZERO_START, ZERO_HOMES, polys("-1/2")))
R = letter("root", 0)
TWO_CASE = system(["y^2 - 2", "x' - y*x"])
TWO_START = (tower("a^2 - 2"), ((("x", 0), ONE), (("x", 1), R), (("y", 0), R)), (scaled(R, (1, 4)), ONE), ())
TWO_HOMES = ((ONE, ((0, 0, ONE),), ONE), (ONE, ((1, 0, ONE),), ONE))
TWO = ("no", (TWO_CASE, TWO_START, TWO_HOMES, (plus(R, ONE),)))


class FollowsTest(unittest.TestCase):
    def answer(self, pair, f, told):
        """The word of the answer, when that was judged and is within the bounds."""
        found = follows(pair, f, told)
        self.assertIs(is_following(pair, f, told, found), True, (pair, f, told))
        word, paper = found
        if word == "yes":
            self.assertTrue(is_shown(pair, f, paper))
            self.assertLessEqual(len(paper), 400)
        else:
            self.within_bounds(paper, told)
        return word

    def within_bounds(self, paper, told):
        case, start, homes, _ = paper
        members = members_of(case[0], places_of(told))
        orders = {}
        for (name, k), _ in start[1]:
            orders[name] = k
        for member in members:
            for j in range(orders[member.leader[0]] - member.leader[1] + 1):
                self.assertLessEqual(len(member.rate_within(j, 10 ** 6)), 1000)
        for _, rows, _ in homes:
            cost = sum(len(c) * len(members[i].rate_within(j, 10 ** 6)) for i, j, c in rows)
            tops = {}
            for i, j, _ in rows:
                tops[i] = max(j, tops.get(i, 0))
            cost += sum(len(members[i].rates[k]) for i, top in tops.items() for k in range(1, top + 1))
            self.assertLessEqual(cost, 400000)

    def test_examples(self):
        self.assertEqual(self.answer(SQUARE, GOAL, X), "no")
        self.assertEqual(self.answer((SQUARE[0], polys("x")), GOAL, X), "yes")
        self.assertEqual(self.answer(TWO_CASE, read("x' - x"), XY), "no")
        self.assertIs(is_following(SQUARE, GOAL, X, NO), True)
        self.assertIs(is_following((SQUARE[0], polys("x")), GOAL, X, ("yes", SHOWN)), True)
        self.assertIs(is_following(TWO_CASE, read("x' - x"), XY, TWO), True)

    def test_small(self):
        empty = ((), ())
        self.assertEqual(follows(empty, ONE, ()), ("no", (empty, ((), (), (), ()), (), (ONE,))))
        for pair, f, told, word in (
            (empty, "1", (), "no"),
            (empty, "0", (), "yes"),
            (empty, "x", X, "no"),
            (empty, "0", X, "yes"),
            (system(["3"]), "1", (), "yes"),
            (system([], ["0"]), "x", X, "yes"),
            (system(["x"], ["x"]), "1", X, "yes"),
            (system(["x' - 1", "x^2 - x"]), "1", X, "yes"),
            (SQUARE, "1", X, "no"),
            (SQUARE, "x''*x' - 2*x'", X, "yes"),
            (SQUARE, "x'*x", X, "no"),
            (system(["x'' + y", "y'"]), "x[3]", XY, "yes"),
            (system(["x^2"]), "x", X, "yes"),
            (system(["x^3*y"], ["y"]), "x'", XY, "yes"),
            (system(["x*y"], ["x"]), "y + x", XY, "no"),
            (system(["x'^2 + 1"]), "x''", X, "yes"),
            (system(["x^2 + y^2"]), "x", XY, "no"),
            (system(["x^2 - 2", "y^2 - 2", "x*y + 2"]), "x + y", XY, "yes"),
            (system(["x - y'"], ["x' - 1"]), "y'' - 1", (("y",), ("x",)), "no"),
        ):
            self.assertEqual(self.answer(pair, read(f), told), word, (pair, f))

    def test_second_judge(self):
        for pair, f, told in (((SQUARE[0], polys("x")), GOAL, X), (system(["x'^2 + 1"]), read("x''"), X)):
            word, tree = follows(pair, f, told)
            self.assertEqual(word, "yes")
            self.assertEqual(reference.judge(pair, f, tree), ())

    def test_light_kinds(self):
        for kind in kinds.KINDS:
            rng = rng_of("follows" + kind)
            for _ in range(60):
                pair, told = question(rng, kind)
                names = sorted({name for block in told for name in block})
                f = ONE if kind == "F5" else polynomial_of(rng, pair, names)
                word = self.answer(pair, f, told)
                self.assertEqual(word == "yes", all(holds_in(case, told, f) for case in cases_of(pair, told)[0]))

    def test_consequences(self):
        for kind in ("F1", "F2", "F3", "F4"):
            rng = rng_of("yes" + kind)
            for _ in range(30):
                pair, told = question(rng, kind)
                p = rng.choice(pair[0])
                self.assertEqual(self.answer(pair, times(rates(p, 1)[1], read("x + 2")), told), "yes")
                self.assertEqual(self.answer((pair[0] + (power(p, 2),), pair[1]), p, told), "yes")
                self.assertEqual(self.answer((pair[0], pair[1] + (p,)), ONE, told), "yes")

    def test_errors(self):
        for call in (lambda s, f, t: follows(s, f, t), lambda s, f, t: is_following(s, f, t, None)):
            for bad in [*ANYTHING, (polys("x"), [read("x")]), (polys("x"), (1,))]:
                if bad != ((), ()):
                    self.assertRaises(BadSystem, call, bad, None, None)
            for bad in NO_POLYNOMIALS:
                self.assertRaises(BadPolynomial, call, SQUARE, bad, None)
            for bad in [*NO_RANKINGS, ()]:
                self.assertRaises(BadRanking, call, SQUARE, ONE, bad)
            self.assertRaises(BadRanking, call, SQUARE, read("y"), X)
            self.assertRaises(BadRanking, call, SQUARE, ONE, (("y",),))


class JudgeTest(unittest.TestCase):
    def test_no_answers(self):
        for bad in [*ANYTHING, ("yes",), ("no",), ("yes", None), ("no", None), ("Yes", SHOWN), ("maybe", SHOWN),
                    (True, SHOWN), ["no", NO[1]], (*NO, ()), ("yes", NO[1]), ("no", SHOWN), ("yes", ())]:
            self.assertIs(is_following(SQUARE, GOAL, X, bad), False, bad)

    def test_trees_bent(self):
        pair = (SQUARE[0], polys("x"))
        for told, f in ((SQUARE, GOAL), (pair, read("x''")), (pair, ONE), (system(["x'^2 - 5*x"], ["x"]), GOAL)):
            self.assertIs(is_following(told, f, X, ("yes", SHOWN)), False)
        self.assertIs(is_following(pair, GOAL, X, ("yes", SHOWN[:2])), False)
        self.assertIs(is_following(pair, GOAL, X, ("yes", list(SHOWN))), False)
        self.assertIs(is_following(pair, scaled(GOAL, (3, 1)), X, ("yes", SHOWN)), True)
        cases = (((), ("case", (0,), (0,))),)
        self.assertIs(is_following(pair, GOAL, X, ("yes", cases)), False)

    def bent(self, **changed):
        """The paper of the first example with something changed."""
        case, start, homes, units = NO[1]
        return ("no", (changed.get("case", case), changed.get("start", start), changed.get("homes", homes),
                       changed.get("units", units)))

    def test_papers_bent(self):
        s, rows, turn = ZERO_HOMES[0]
        self.assertIs(is_following(SQUARE, GOAL, X, self.bent()), True)
        wrong = [
            self.bent(case=(polys("x - 1"), ())),
            self.bent(case=(polys("x"), polys("x'"))),
            self.bent(case=(polys("x", "x'"), ())),
            self.bent(case=SQUARE),
            self.bent(case=None),
            self.bent(start=(*ZERO_START[:3], ())[:3]),
            self.bent(start=((), ZERO_START[1][:2], *ZERO_START[2:])),
            self.bent(start=((), ((("x", 0), ONE), *ZERO_START[1][1:]), *ZERO_START[2:])),
            self.bent(start=((), ZERO_START[1], (), ())),
            self.bent(homes=()),
            self.bent(homes=(ZERO_HOMES[0], ZERO_HOMES[0])),
            self.bent(homes=list(ZERO_HOMES)),
            self.bent(homes=((s, rows),)),
            self.bent(homes=((s, rows, number((2, 1))),)),
            self.bent(homes=((s, rows, read("x")),)),
            self.bent(homes=((number((2, 1)), rows, number((1, 2))),)),
            self.bent(homes=((read("x"), rows, turn),)),
            self.bent(homes=(((), (), turn),)),
            self.bent(homes=((s, rows[:1], turn),)),
            self.bent(homes=((s, rows[::-1], turn),)),
            self.bent(homes=((s, list(rows), turn),)),
            self.bent(homes=((s, (*rows, (0, 2, ())), turn),)),
            self.bent(homes=((s, ((0, 0, read("-2")), (0, 0, read("-2")), rows[1]), turn),)),
            self.bent(homes=((s, (rows[0], (0, 1, read("2*x'"))), turn),)),
            self.bent(homes=((s, (rows[0], (1, 1, read("x'"))), turn),)),
            self.bent(homes=((s, (rows[0], (False, 1, read("x'"))), turn),)),
            self.bent(homes=((s, (rows[0], (0, True, read("x'"))), turn),)),
            self.bent(homes=((s, (rows[0], [0, 1, read("x'")]), turn),)),
            self.bent(homes=((s, (rows[0], (0, 1)), turn),)),
            self.bent(homes=((s, (rows[0], (0, 1, None)), turn),)),
            self.bent(units=()),
            self.bent(units=polys("1/2")),
            self.bent(units=polys("-1/2", "1")),
            self.bent(units=list(polys("-1/2"))),
            self.bent(units=(None,)),
            ("no", [*NO[1]]),
            ("no", NO[1][:3]),
            ("no", (*NO[1], ())),
        ]
        for bad in wrong:
            self.assertIs(is_following(SQUARE, GOAL, X, bad), False, bad)
        self.assertIs(is_following(SQUARE, read("x''*x"), X, NO), False)
        self.assertIs(is_following(SQUARE, read("x[3] - 2"), X, NO), False)
        self.assertIs(is_following((SQUARE[0], polys("x")), GOAL, X, self.bent(units=polys("1", "-1/2"))), False)
        self.assertIs(is_following((SQUARE[0], polys("x + 1")), GOAL, X, self.bent(units=polys("1", "-1/2"))), True)
        self.assertIs(is_following((SQUARE[0], polys("x + 1")), GOAL, X, self.bent(units=polys("-1/2", "1"))), False)

    def test_inequations_ask_for_units(self):
        # With A = (x' - 1,), Q = (x,) the start with x = 0 is one, but x has no inverse there.
        pair = system(["x' - 1"], ["x"])
        for worth, answer in (("0", False), ("3", True)):
            start = ((), ((("x", 0), read(worth)), (("x", 1), ONE)), (ONE,), ())
            turn = scaled(ONE, (1, 3))
            paper = ((pair[0], ()), start, ((ONE, ((0, 0, ONE),), ONE),), (turn, ONE))
            self.assertIs(is_following(pair, ONE, X, ("no", paper)), answer)

    def test_rates_in_homes(self):
        for j, answer in ((24, True), (25, False)):
            p = letter("x", j)
            pair = ((p,), ())
            paper = ((polys("x"), ()), ((), ((("x", 0), ()),), polys("1"), ()), ((ONE, ((0, j, ONE),), ONE),), (ONE,))
            self.assertIs(is_following(pair, ONE, X, ("no", paper)), answer)

    def test_pairs_in_papers(self):
        for many, answer in ((2999, True), (3000, False)):
            rows = [(((("y", 0), k // 60 + 1), (("z", 0), k - k // 60 * 60 + 1)), (1, 1)) for k in range(many)]
            m = tuple(sorted(rows + list(ONE)))
            start = ((), ((("y", 0), ()), (("z", 0), ())), (), polys("1"))
            paper = (((), (m,)), start, (), (ONE,))
            self.assertIs(is_following(((), ()), ONE, (("y", "z"),), ("no", paper)), answer)


if __name__ == "__main__":
    unittest.main()
