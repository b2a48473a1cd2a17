"""Points 26, 30, 36, 43, 61 to 63: told by others, numbers of values, freedom."""

import unittest

from ratesay.conditions import TRUE, either, true_at, union_of_system
from ratesay.errors import BadCase, BadName, BadNames, BadPlanted, BadRanking, BadRows, BadSystem, BadUnion, TooGreat
from ratesay.finding import cases_of
from ratesay.homes import is_cases
from ratesay.polynomials import less, letter, names_of
from ratesay.sets import exclusive
from ratesay.starts import is_following
from ratesay.told import (
    copies, counts, doubled, freedom, is_counts, is_freedom, is_told_by, number_at, told_by, values_in,
)
from ratesay.trees import leaf_cases
from tests.helpers import ANYTHING, polys, rng_of, system
from tests.kinds import degree_of, has_rate, letters, polynomial, question
from tests.test_conditions import NO_CONDITIONS, many
from tests.test_planted import NO_FUNCTIONS
from tests.times import planted

XY = (("x",), ("y",))
NO_NAMES = [None, 0, "y", ["y"], (1,), ("Y",), ("y", "y"), (("y",),), ("y", None), {"y": 1}]
NO_NAME = [None, 0, "", "X", "abcdefghi", ("x",), ["x"], True]


def names_in(pair):
    return sorted({name for p in [*pair[0], *pair[1]] for name in names_of(p)})


class ValuesTest(unittest.TestCase):
    def test_values(self):
        for case, ranking, name, answer in (
            (system(["x*y - 1"], ["y"]), XY, "x", 1), (system(["x^2 - y"], ["y"]), XY, "x", 2),
            (system(["x^2 - y"], ["y"]), XY, "y", None), (system(["x' - y"]), XY, "x", None),
            (system(["x^3 - y", "y' - 1"], ["y"]), XY, "x", 3), (system(["y' - 1"]), XY, "x", None),
            (((), ()), XY, "x", None), (system(["x' - y", "z - x"]), (("z",), ("x", "y")), "z", 1),
        ):
            self.assertEqual(values_in(case, ranking, name), answer)

    def test_errors(self):
        for bad in (None, (), (polys("1"), ())):
            self.assertRaises(BadCase, values_in, bad, None, None)
        self.assertRaises(BadRanking, values_in, system(["x"]), None, None)
        self.assertRaises(BadRanking, values_in, system(["x"]), (("y",),), None)
        self.assertRaises(BadCase, values_in, system(["x", "x'"]), XY, None)
        for ranking, bad in ((XY, "z"), (XY, None), (XY, ["x"]), ((("x", "y"),), "x"), (XY, ("x",)), (XY, 1)):
            with self.assertRaises(BadName) as caught:
                values_in(system(["x"]), ranking, bad)
            self.assertEqual(caught.exception.name, bad)


class CopiesTest(unittest.TestCase):
    def test_copies(self):
        for pair, x, ys, answer in (
            (system(["x' - y"]), "x", ("y",), (("x", "c1"),)),
            (system(["x' - y"]), "x", (), (("x", "c1"), ("y", "c2"))),
            (system(["a - c1"]), "a", (), (("a", "c2"), ("c1", "c3"))),
            (system(["x' - c2"]), "x", ("c2",), (("x", "c1"),)),
            (system(["x' - y"]), "x", ("y", "c1"), (("x", "c2"),)),
            (((), ()), "w", (), (("w", "c1"),)),
            (system(["x' - y"]), "c1", ("y",), (("c1", "c2"), ("x", "c3"))),
            (system(["x"], ["z*b"]), "x", (), (("b", "c1"), ("x", "c2"), ("z", "c3"))),
        ):
            self.assertEqual(copies(pair, x, ys), answer)

    def test_doubled(self):
        self.assertEqual(doubled(system(["x' - y", "y'"], ["x", "y - 1"]), "x", ("y",)),
                         system(["x' - y", "y'", "c1' - y"], ["x", "y - 1", "c1"]))
        self.assertEqual(doubled(system(["x' - y"], ["x"]), "x", ()), system(["x' - y", "c1' - c2"], ["x", "c1"]))
        self.assertEqual(doubled(system(["x", "x"], []), "x", ()), system(["x", "x", "c1"]))
        self.assertEqual(doubled(((), ()), "x", ("y",)), ((), ()))
        self.assertEqual(doubled(system(["5", "x + b^2"]), "x", ("b",)), system(["5", "x + b^2", "b^2 + c1"]))

    def test_errors(self):
        for call in (copies, doubled, told_by, lambda s, x, ys: is_told_by(s, x, ys, None)):
            for bad in ANYTHING:
                if bad != ((), ()):
                    self.assertRaises(BadSystem, call, bad, None, None)
            pair = system(["x - y"])
            for bad in NO_NAME:
                with self.assertRaises(BadName) as caught:
                    call(pair, bad, None)
                self.assertEqual(caught.exception.name, bad)
            for bad in NO_NAMES:
                self.assertRaises(BadNames, call, pair, "x", bad)
            with self.assertRaises(BadName) as caught:
                call(pair, "x", ("y", "x"))
            self.assertEqual(caught.exception.name, "x")


class ToldTest(unittest.TestCase):
    def told(self, pair, x, ys):
        """The answer, when it was judged in two ways."""
        found = told_by(pair, x, ys)
        self.assertIs(is_told_by(pair, x, ys, found), True)
        table = dict(copies(pair, x, ys))
        block = tuple(sorted([*table, *table.values()]))
        ranking = (block, tuple(sorted(ys))) if ys else (block,)
        f = less(letter(x, 0), letter(table[x], 0))
        self.assertIs(is_following(doubled(pair, x, ys), f, ranking, found), True)
        return found[0] == "yes"

    def test_known(self):
        for pair, x, ys, answer in (
            (system(["x' - y"]), "y", ("x",), True), (system(["x' - y"]), "x", ("y",), False),
            (system(["x' - y"]), "x", (), False), (system(["x - 3"]), "x", (), True), (system(["x^2 - 2"]), "x", (), False),
            (system(["x*y - 1"]), "x", ("y",), True), (system(["x*y"]), "x", ("y",), False),
            (system(["x*y"], ["y"]), "x", ("y",), True), (system(["x^2 - y"]), "x", ("y",), False),
            (system(["x^2 - y", "x' - z"], ["z"]), "x", ("y", "z"), True), (system(["x^2 - y"]), "y", ("x",), True),
            (system(["x - y - z"]), "x", ("z", "y"), True), (system(["x - y - z"]), "x", ("z",), False),
            (((), ()), "x", (), False), (((), ()), "x", ("y", "z"), False), (system(["y'"]), "x", ("y",), False),
            (system(["x' - 1", "x^2 - x"]), "w", (), True), (system(["1"]), "x", ("y",), True),
            (system(["x^2"]), "x", (), True), (system(["x' - x*y"], ["x"]), "y", ("x",), True),
            (system(["x' - x*y"]), "y", ("x",), False), (system(["x - y''"]), "x", ("y", "w"), True),
        ):
            self.assertIs(self.told(pair, x, ys), answer, (pair, x, ys))

    def test_light_systems(self):
        rng = rng_of(61)
        seen = set()
        for _ in range(120):
            names = "xy"[:rng.randint(1, 2)]
            p = polynomial(rng, letters(names, [0, 1]), 2, 3)
            if has_rate(p) and degree_of(p) > 1:
                continue
            inequations = (polynomial(rng, letters(names, [0]), 1, 2),) if rng.random() < 0.5 else ()
            x = rng.choice([*names, "w"])
            ys = tuple(name for name in [*names, "q"] if name != x and rng.random() < 0.6)
            seen.add(self.told(((p,), inequations), x, ys))
        self.assertEqual(seen, {True, False})

    def test_judge(self):
        yes, no = system(["x*y - 1"]), system(["x*y"])
        right, wrong = told_by(yes, "x", ("y",)), told_by(no, "x", ("y",))
        for pair, bad in ((yes, wrong), (no, right), (yes, ("yes",)), (yes, ("no", right[1])), (yes, list(right)),
                          (no, ("yes", wrong[1])), (no, ("no", wrong[1][:3])), (yes, (*right, ())), (yes, ("yes", ()))):
            self.assertIs(is_told_by(pair, "x", ("y",), bad), False)
        for bad in ANYTHING:
            self.assertIs(is_told_by(yes, "x", ("y",), bad), False)
        self.assertIs(is_told_by(yes, "y", ("x",), right), False)


class CountsTest(unittest.TestCase):
    def counted(self, u, x, ys):
        """The rows told, when they were judged and the papers looked at."""
        found = counts(u, x, ys)
        self.assertIs(is_counts(u, x, ys, found), True)
        rows, entries = found
        at = 0
        for condition in exclusive(u):
            names = names_in(condition)
            if x in names:
                rest = tuple(name for name in names if name != x)
                ranking = ((x,), rest) if rest else ((x,),)
                cases = leaf_cases(condition, entries[at][0])
                self.assertTrue(is_cases(condition, ranking, cases, entries[at]))
                at += 1
        self.assertEqual(at, len(entries))
        return rows

    def test_example(self):
        u = union_of_system(system(["x^2 - y"]))
        rows = self.counted(u, "x", ("y",))
        self.assertEqual(sorted(rows), sorted([(((), polys("y")), 2), ((polys("y"), ()), 1)]))
        self.assertEqual(number_at(rows, planted(y=[0, 1])), 2)
        self.assertEqual(number_at(rows, planted(y=[])), 1)

    def test_numbers(self):
        for pairs, ys, rows in (
            ([(["x^2 - y"],)], ("y",), [(dict(y=[1]), 2), (dict(y=[]), 1)]),
            ([(["x*y - 1"],)], ("y",), [(dict(y=[1]), 1), (dict(y=[]), 0)]),
            ([(["x*y"],)], ("y",), [(dict(y=[1]), 1), (dict(y=[]), None)]),
            ([(["x' - y"],)], ("y",), [(dict(y=[1]), None)]),
            ([(["x - y"],), (["x + y"],)], ("y",), [(dict(y=[1]), 2), (dict(y=[]), 1)]),
            ([(["x^3 - x"],), (["y", "x - 1"],)], ("y",), [(dict(y=[1]), 3), (dict(y=[]), 3)]),
            ([(["y"],)], ("y",), [(dict(y=[]), None), (dict(y=[1]), 0)]),
            ([(["y", "x^2 - 2"],), (["y - 1", "x"],)], ("y", "z"), [
                (dict(y=[], z=[]), 2), (dict(y=[1], z=[]), 1), (dict(y=[2], z=[]), 0)]),
            ([(["x^2 - y", "x' - z"],)], ("z", "y"), [
                (dict(y=[0, 0, 1], z=[1]), 1), (dict(y=[], z=[]), 1), (dict(y=[4], z=[]), 2), (dict(y=[0, 1], z=[1]), 0)]),
            ([], ("y",), [(dict(y=[]), 0)]),
            ([([],)], (), [(dict(), None)]),
            ([(["x' - 1", "x^2 - x"],)], (), [(dict(), 0)]),
            ([(["x^2 - 2"],)], (), [(dict(), 2)]),
            ([(["x^2 - 4"], ["x - 2"])], (), [(dict(), 1)]),
        ):
            u = ()
            for pair in pairs:
                u = either(u, union_of_system(system(*pair)))
            told = self.counted(u, "x", ys)
            for functions, answer in rows:
                self.assertEqual(number_at(told, planted(**functions)), answer, (pairs, functions))

    def test_light_kinds(self):
        rng = rng_of(62)
        for kind in ("F2", "F4", "F6"):
            for _ in range(30):
                pair, _ = question(rng, kind)
                u = union_of_system(pair)
                names = names_in((u[0] if u else ((), ())))
                x = rng.choice(names or ["x"])
                self.counted(u, x, tuple(name for name in names if name != x))

    def test_bent(self):
        u = either(union_of_system(system(["x^2 - y"])), union_of_system(system(["x*y - 1"])))
        rows, entries = counts(u, "x", ("y",))
        self.assertTrue(len(rows) > 2 and len(entries) > 1)
        wrong = [
            (rows[1:], entries), (rows[::-1], entries), ((*rows, rows[0]), entries), (rows, entries[1:]), (rows, entries[:-1]),
            (rows, (*entries, entries[0])), (rows, entries[::-1]), (list(rows), entries), (rows, list(entries)), (rows,),
            (rows, entries, ()), [rows, entries], (((rows[0][0], 7), *rows[1:]), entries), (rows, None), (None, entries),
            (((rows[0][0], None), *rows[1:]), entries), (((rows[0][0], 0), *rows[1:]), entries), (rows, (None, *entries[1:])),
            (((rows[0][0], True), *rows[1:]), entries), ((rows[0][:1], *rows[1:]), entries),
            ((((polys("2*y"), ()), 1), *rows[1:]), entries), ((*rows, (TRUE, None)), entries),
        ]
        for bad in [*wrong, *ANYTHING]:
            self.assertIs(is_counts(u, "x", ("y",), bad), False, bad)
        # What is no pair of rows and a tuple is told ahead of a union that is too great to be parted.
        def pairs(k):
            return (tuple(sorted(letter(f"n{k}{j}", 0) for j in range(2))), ())
        great = tuple(pairs(k) for k in range(9))
        ys = tuple(f"n{k}{j}" for k in range(9) for j in range(2))
        for bad in (None, (), ((), None), ((1,), ()), ([], ())):
            self.assertIs(is_counts(great, "x", ys, bad), False)
        self.assertRaises(TooGreat, is_counts, great, "x", ys, ((), ()))
        self.assertRaises(TooGreat, counts, great, "x", ys)

    def test_errors(self):
        u = union_of_system(system(["x^2 - y"]))
        for call in (counts, lambda u, x, ys: is_counts(u, x, ys, None)):
            for bad in [None, 0, [TRUE], (TRUE, TRUE), many(201), *[(c,) for c in NO_CONDITIONS]]:
                self.assertRaises(BadUnion, call, bad, None, None)
            for bad in NO_NAME:
                with self.assertRaises(BadName) as caught:
                    call(u, bad, None)
                self.assertEqual(caught.exception.name, bad)
            for bad in NO_NAMES:
                self.assertRaises(BadNames, call, u, "x", bad)
            self.assertRaises(BadNames, call, u, "x", ())
            self.assertRaises(BadNames, call, u, "y", ("z", "y"))
            self.assertRaises(BadNames, call, u, "z", ("z", "y"))
            with self.assertRaises(BadName) as caught:
                call(u, "x", ("x", "y"))
            self.assertEqual(caught.exception.name, "x")

    def test_number_at(self):
        rows = (((polys("y"), ()), 2), (((), polys("y")), 3), (((), polys("y'")), None), (TRUE, 1))
        for row, answer in (([], 3), ([1], 4), ([0, 1], None)):
            self.assertEqual(number_at(rows, planted(y=row)), answer)
            self.assertEqual(number_at(rows[:1], planted(y=row)), 0 if row else 2)
        self.assertEqual(number_at((), None), 0)
        self.assertEqual(number_at(((TRUE, 5),), ()), 5)
        for bad in [None, 0, [], [(TRUE, 1)], ((TRUE,),), ((TRUE, 0),), ((TRUE, -1),), ((TRUE, True),), ((TRUE, "1"),),
                    ([TRUE, 1],), ((TRUE, 1, 1),), *[((c, 1),) for c in NO_CONDITIONS]]:
            self.assertRaises(BadRows, number_at, bad, None)
        for bad in NO_FUNCTIONS:
            self.assertRaises(BadPlanted, number_at, rows, bad)
        self.assertRaises(BadPlanted, number_at, rows, planted(x=[]))
        self.assertRaises(BadPlanted, number_at, ((TRUE, None), ((polys("z"), ()), 1)), planted(y=[]))
        self.assertIs(true_at((TRUE,), ()), True)


class FreedomTest(unittest.TestCase):
    def free(self, pair, names):
        """The freedom told, when it was judged."""
        value = freedom(pair, names)
        self.assertIs(is_freedom(pair, names, value), True)
        answer, paper = value
        ranking = (tuple(sorted(names)),)
        cases = leaf_cases(pair, paper[0])
        self.assertTrue(is_cases(pair, ranking, cases, paper))
        for other in (None, (0, 0), (1, 0), (5, 5), True, 0, ()):
            if other != answer:
                self.assertIs(is_freedom(pair, names, (other, paper)), False)
        return answer

    def test_known(self):
        for equations, names, answer in (
            (["x'' + y"], "xy", (1, 2)), (["x*y"], "xy", (1, 0)), (["x'^2 - 4*x"], "x", (0, 1)), ([], "x", (1, 0)),
            ([], "xyz", (3, 0)), (["x"], "xyz", (2, 0)), (["x' - 1", "x^2 - x"], "x", None), (["1"], "xy", None),
            (["x' - y", "y' - x"], "xy", (0, 2)), (["x - y'"], "xy", (1, 1)), (["x*y", "x' - 1"], "xy", (0, 1)),
            (["x*(x'' - x)"], "x", (0, 2)), (["x^2 - 2"], "x", (0, 0)), (["x*y", "x*z"], "xyz", (2, 0)),
            (["x' - y^2", "y'' + x"], "yx", (0, 3)),
        ):
            self.assertEqual(self.free(system(equations), tuple(names)), answer, equations)
            self.assertEqual(self.free(system(equations), tuple(names)[::-1]), answer)

    def test_any_order_and_ranking(self):
        for kind in ("F1", "F2", "F4", "F6"):
            rng = rng_of("freedom" + kind)
            for _ in range(25):
                pair, ranking = question(rng, kind)
                names = [name for block in ranking for name in block]
                answer = self.free(pair, tuple(names))
                self.assertEqual(self.free(pair, tuple(reversed(names))), answer)
                cases = cases_of(pair, ranking)[0]
                self.assertEqual(answer is None, not cases)
                if cases:
                    # For each ranking the greatest number of names that lead nothing is the same.
                    count = max(len(names) - len(case[0]) for case in cases)
                    self.assertEqual(answer[0], count)

    def test_bent(self):
        pair = system(["x*y", "x' - 1"])
        value = freedom(pair, ("x", "y"))
        answer, paper = value
        for bad in [(answer,), (*value, ()), list(value), (list(answer), paper), (answer, paper[:1]), (answer, None),
                    (answer, (paper[0], ())), (answer, ((), ())), *ANYTHING]:
            self.assertIs(is_freedom(pair, ("x", "y"), bad), False)
        self.assertIs(is_freedom(system(["x*y - 1", "x' - 1"]), ("x", "y"), value), False)
        self.assertEqual(answer, (0, 1))
        for same in ((False, 1), (0, True), [0, 1], (0, 1.0)):
            self.assertIs(is_freedom(pair, ("x", "y"), (same, paper)), False)
        self.assertIs(is_freedom(pair, ("x", "y", "z"), value), False)
        more = freedom(pair, ("x", "y", "z"))
        self.assertEqual(more[0], (1, 1))

    def test_errors(self):
        for call in (freedom, lambda s, names: is_freedom(s, names, None)):
            for bad in ANYTHING:
                if bad != ((), ()):
                    self.assertRaises(BadSystem, call, bad, None)
            for bad in [*NO_NAMES, (), ("x",), ("y",), ("x", "z")]:
                self.assertRaises(BadNames, call, system(["x - y"]), bad)
            self.assertRaises(BadNames, call, ((), ()), ())


if __name__ == "__main__":
    unittest.main()
