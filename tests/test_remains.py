"""Points 49 and 50: what remains."""

import unittest

from ratesay.errors import BadRanking, BadSystem
from ratesay.homes import is_cases
from ratesay.polynomials import names_of
from ratesay.remains import is_remain, remain
from ratesay.trees import leaf_cases
from tests import kinds
from tests.helpers import ANYTHING, polys, rng_of, system
from tests.kinds import question
from tests.test_trees import mutated
from tests.times import planted, solves


class RemainTest(unittest.TestCase):
    def parts(self, pair, upper):
        """The parts told, when the paper was judged."""
        value = remain(pair, upper)
        parts, paper = value
        self.assertIs(is_remain(pair, upper, value), True)
        names = sorted({name for p in [*pair[0], *pair[1]] for name in names_of(p)})
        lower = tuple(name for name in names if name not in upper)
        ranking = (upper, lower) if lower else (upper,)
        cases = leaf_cases(pair, paper[0])
        self.assertTrue(is_cases(pair, ranking, cases, paper))
        self.assertEqual(len(parts), len(cases))
        for part, case in zip(parts, cases):
            for side, rows in zip(part, case):
                self.assertEqual(side, tuple(p for p in rows if not set(names_of(p)) & set(upper)))
        return parts

    def holds(self, parts, **functions):
        """Whether lower functions solve one of the parts, and then just one."""
        row = planted(**functions)
        found = [part for part in parts if solves(part, row)]
        return bool(found)

    def test_example(self):
        self.assertEqual(self.parts(system(["x*y - 1"]), ("x",)), (((), polys("y")),))

    def test_all_upper(self):
        self.assertEqual(self.parts(system(["x' - 1"]), ("x",)), (((), ()),))
        self.assertEqual(self.parts(system(["x' - 1", "x^2 - x"]), ("x",)), ())
        self.assertEqual(self.parts(system(["x' - y", "y' - x"]), ("y", "x")), (((), ()),))

    def test_lower_functions(self):
        for equations, upper, rows in (
            (["a*x - b"], ("x",), [(dict(a=[], b=[]), True), (dict(a=[], b=[1]), False), (dict(a=[1], b=[2]), True),
                                   (dict(a=[0, 1], b=[1]), True), (dict(a=[0, 1], b=[]), True)]),
            (["a*x - b", "x' - c"], ("x",), [
                (dict(a=[1], b=[0, 1], c=[1]), True), (dict(a=[1], b=[0, 1], c=[]), False),
                (dict(a=[], b=[], c=[0, 0, 5]), True), (dict(a=[], b=[1], c=[1]), False),
                (dict(a=[0, 1], b=[0, 0, 1], c=[1]), True), (dict(a=[0, 1], b=[0, 0, 1], c=[2]), False)]),
            (["a*x - b", "x^2 - d"], ("x",), [
                (dict(a=[1], b=[0, 1], d=[0, 0, 1]), True), (dict(a=[1], b=[0, 1], d=[0, 1]), False),
                (dict(a=[], b=[], d=[0, 1]), True), (dict(a=[], b=[0, 2], d=[0, 1]), False),
                (dict(a=[2], b=[0, 2], d=[0, 0, 1]), True)]),
            (["x^2 - a"], ("x",), [(dict(a=[]), True), (dict(a=[0, 1]), True), (dict(a=[-1]), True)]),
            (["x^2 - a", "x'"], ("x",), [(dict(a=[]), True), (dict(a=[0, 1]), False), (dict(a=[7]), True)]),
            (["x*x' - a"], ("x",), [(dict(a=[]), True), (dict(a=[0, 1]), True), (dict(a=[3]), True)]),
            (["x - a", "x' - b"], ("x",), [(dict(a=[0, 3], b=[3]), True), (dict(a=[0, 3], b=[]), False),
                                           (dict(a=[], b=[]), True), (dict(a=[1, 1, 1], b=[1, 2]), True)]),
            (["x + y - a", "x - y - b", "x*y - c"], ("x", "y"), [
                (dict(a=[2], b=[], c=[1]), True), (dict(a=[2], b=[], c=[2]), False),
                (dict(a=[0, 2], b=[0, 2], c=[]), True)]),
            (["x' - y", "y - a"], ("y", "x"), [(dict(a=[]), True), (dict(a=[4, 4]), True)]),
            (["x' - y", "y'"], ("x",), [(dict(y=[]), True), (dict(y=[3]), True), (dict(y=[0, 1]), False)]),
            (["x' - y", "y'"], ("y",), [(dict(x=[1, 1]), True), (dict(x=[]), True), (dict(x=[0, 0, 1]), False)]),
        ):
            parts = self.parts(system(equations), upper)
            for functions, answer in rows:
                self.assertEqual(self.holds(parts, **functions), answer, (equations, functions))
        parts = self.parts(system(["x^2 - a"], ["x"]), ("x",))
        self.assertFalse(self.holds(parts, a=[]))
        self.assertTrue(self.holds(parts, a=[1]))

    def test_orders_of_upper_names(self):
        pair = system(["x + y - a", "x*y - b"])
        for upper in (("x", "y"), ("y", "x"), ("a", "b"), ("b", "x", "a"), ("x",), ("y", "a"), ("a", "b", "x", "y")):
            self.parts(pair, upper)

    def test_light_kinds(self):
        for kind in ("F1", "F2", "F3", "F4", "F6"):
            rng = rng_of("remain" + kind)
            for _ in range(30):
                # With three names F1 asks something of the ranking that the upper names may break.
                pair, _ = kinds.first(rng, 2) if kind == "F1" else question(rng, kind)
                names = sorted({name for p in [*pair[0], *pair[1]] for name in names_of(p)})
                if names:
                    rng.shuffle(names)
                    self.parts(pair, tuple(names[:rng.randint(1, len(names))]))

    def test_bent(self):
        pair = system(["a*x - b", "x' - c"])
        value = remain(pair, ("x",))
        parts, paper = value
        self.assertTrue(len(parts) > 1)
        tree, papers = paper
        wrong = [
            (parts[::-1], paper), (parts[1:], paper), ((*parts, parts[0]), paper), (list(parts), paper), (parts,),
            (parts, paper, ()), [parts, paper], ((((), ()), *parts[1:]), paper), (parts, (tree, papers[::-1])),
            (parts, (tree, papers[1:])), (parts, (tree[:-1], papers)), (parts, (tree,)), (parts, None), (None, paper),
            (parts, (tree, ((papers[0][0], ()), *papers[1:]))), (parts, (tree, (((), papers[0][1]), *papers[1:]))),
        ]
        for bad in [*wrong, *ANYTHING]:
            self.assertIs(is_remain(pair, ("x",), bad), False, bad)
        self.assertIs(is_remain(pair, ("c",), value), False)
        self.assertIs(is_remain(system(["a*x - b", "x' - 2*c"]), ("x",), value), False)

    def test_true_is_no_integer(self):
        pair = system(["x*y - 1"])
        parts, paper = remain(pair, ("x",))
        self.assertEqual(parts, (((), polys("y")),))
        other = ((), ((((((("y", 0), True),), (1, 1)),)),))
        self.assertEqual((other,), parts)
        self.assertIs(is_remain(pair, ("x",), ((other,), paper)), False)

    def test_mutated(self):
        rng = rng_of(50)
        pair = system(["a*x - b"])
        value = remain(pair, ("x",))
        for _ in range(200):
            other = mutated(rng, value)
            if other != value:
                answer = is_remain(pair, ("x",), other)
                if type(other) is not tuple or other[:1] != value[:1]:
                    self.assertIs(answer, False)

    def test_errors(self):
        pair = system(["x*y - 1"])
        for call in (lambda s, u: remain(s, u), lambda s, u: is_remain(s, u, None)):
            for bad in ANYTHING:
                if bad != ((), ()):
                    self.assertRaises(BadSystem, call, bad, None)
            for bad in (None, (), ["x"], "x", ("x", "x"), ("z",), ("x", "z"), (1,), (("x",),), ("X",), ("x", None)):
                self.assertRaises(BadRanking, call, pair, bad)
            self.assertRaises(BadRanking, call, ((), ()), ("x",))


if __name__ == "__main__":
    unittest.main()
