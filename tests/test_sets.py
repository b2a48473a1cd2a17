"""Points 43, 51, 57 to 60: unions as sets."""

import unittest

from ratesay.conditions import TRUE, both, either, is_condition, true_at, union_of_system, without
from ratesay.errors import BadUnion, TooGreat
from ratesay.polynomials import letter, number
from ratesay.sets import (
    containment, emptiness, exclusive, is_containment, is_emptiness, is_equal, is_sameness, is_within, sameness,
)
from ratesay.starts import follows, is_following
from ratesay.texts import read
from tests import kinds
from tests.helpers import ANYTHING, polys, rng_of, system
from tests.kinds import letters, polynomial
from tests.test_conditions import NO_CONDITIONS, many, random_union
from tests.times import random_functions, solves

ONE = number((1, 1))


def union(*pairs):
    """The union of systems told by texts."""
    found = ()
    for pair in pairs:
        found = either(found, union_of_system(system(*pair)))
    return found


NEVER = union((["x' - 1", "x^2 - x"],), (["x*y - 1", "x", "y'"],), (["x'^2 - 4*x", "x''"], ["x"]))
SQUARE = union((["x'^2 - 4*x"],))
PARTS = union((["x"],), (["x'^2 - 4*x", "x'' - 2"],))


class ExclusiveTest(unittest.TestCase):
    def test_to_the_letter(self):
        rng = rng_of(58)
        rows = polys("x", "y", "-x + y", "x'", "2*y + 1", "-1 + x*y")
        for _ in range(150):
            u = random_union(rng, rows)
            found = ()
            for k, condition in enumerate(u):
                found = found + both((condition,), without(u[:k]))
            self.assertEqual(exclusive(u), found)

    def test_just_one_holds(self):
        rng = rng_of(57)
        for _ in range(150):
            rows = [polynomial(rng, letters("xy", [0, 1]), 1, 2) for _ in range(3)]
            u = random_union(rng, rows, 4)
            found = exclusive(u)
            self.assertTrue(all(is_condition(c) for c in found))
            for _ in range(4):
                row = random_functions(rng, "xy", 1)
                self.assertEqual(sum(solves(c, row) for c in found), 1 if true_at(u, row) else 0)

    def test_known(self):
        self.assertEqual(exclusive(()), ())
        self.assertEqual(exclusive((TRUE,)), (TRUE,))
        x, y = polys("x", "y")
        self.assertEqual(exclusive((((x,), ()), ((y,), ()))), (((x,), ()), ((y,), (x,))))
        self.assertEqual(exclusive((((x,), ()), TRUE)), (((x,), ()), ((), (x,))))
        self.assertEqual(exclusive((TRUE, ((x,), ()))), (TRUE,))
        self.assertEqual(len(exclusive(many(200))), 200)

    def test_errors(self):
        for bad in [None, 0, [TRUE], (TRUE, TRUE), many(201), *[(c,) for c in NO_CONDITIONS]]:
            for call in (exclusive, emptiness, lambda u: is_emptiness(u, None)):
                self.assertRaises(BadUnion, call, bad)
            for call in (containment, sameness, is_within, is_equal, lambda u, v: is_containment(u, v, None),
                         lambda u, v: is_sameness(u, v, None)):
                self.assertRaises(BadUnion, call, bad, None)
                self.assertRaises(BadUnion, call, (), bad)
                self.assertRaises(BadUnion, call, NEVER, bad)

    def test_too_great(self):
        def pairs(k, count):
            return (tuple(sorted(letter(f"n{k}{j}", 0) for j in range(count))), ())
        great = tuple(pairs(k, 2) for k in range(9))
        for call in (lambda: exclusive(great), lambda: containment((TRUE,), great), lambda: is_within((TRUE,), great),
                     lambda: is_containment((TRUE,), great, None), lambda: sameness(great, (TRUE,)),
                     lambda: is_sameness(great, (TRUE,), None), lambda: is_equal((TRUE,), great)):
            with self.assertRaises(TooGreat) as caught:
                call()
            self.assertEqual(caught.exception.what, "conditions")
        self.assertEqual(len(exclusive(great[:7])), sum(2 ** k for k in range(7)))
        # The second question would be too great, but the first one is answered by no.
        self.assertIs(is_equal(great, ()), False)


class EmptinessTest(unittest.TestCase):
    def paper(self, u):
        """The paper told, when it was judged."""
        found = emptiness(u)
        self.assertIs(is_emptiness(u, found), True)
        if found[0] == "empty":
            self.assertEqual(len(found[1]), len(u))
        elif u[found[1]] == TRUE:
            self.assertIsNone(found[2])
        else:
            names = sorted({name for side in u[found[1]] for p in side for monomial, _ in p for (name, _), _ in monomial})
            self.assertIs(is_following(u[found[1]], ONE, (tuple(names),), ("no", found[2])), True)
        return found

    def test_known(self):
        self.assertEqual(self.paper(()), ("empty", ()))
        self.assertEqual(self.paper((TRUE,)), ("held", 0, None))
        self.assertEqual(self.paper(NEVER)[0], "empty")
        self.assertEqual(self.paper(SQUARE)[0], "held")
        for at in range(len(NEVER) + 1):
            self.assertEqual(self.paper((*NEVER[:at], SQUARE[0], *NEVER[at:]))[:2], ("held", at))
            self.assertEqual(self.paper((*NEVER[:at], TRUE, *NEVER[at:])), ("held", at, None))

    def test_judge(self):
        word, trees = emptiness(NEVER)
        held = emptiness((NEVER[0], SQUARE[0]))
        for u, bad in (
            (NEVER, (word, trees[:-1])), (NEVER, (word, trees[1:])), (NEVER, (word, trees + trees[:1])),
            (NEVER, (word, trees[::-1])), (NEVER, (word, list(trees))), (NEVER, (word,)), (NEVER, (word, trees, ())),
            (NEVER, ("held", trees)), (NEVER, [word, trees]), (SQUARE, (word, trees[:1])), ((), (word, trees)),
            (NEVER[:1], (word, trees[1:2])), (NEVER, ("empty", (None, *trees[1:]))), (NEVER, ("held", 0, None)),
            ((TRUE,), ("empty", ())), ((TRUE,), ("empty", ((),))), ((TRUE,), ("held", 0, ())), ((TRUE,), ("held", 1, None)),
            ((TRUE,), ("held", False, None)), ((TRUE,), ("held", -1, None)), ((NEVER[0], SQUARE[0]), ("held", 0, held[2])),
            ((NEVER[0], SQUARE[0]), ("held", 1, None)), ((NEVER[0], SQUARE[0]), ("held", 1)), (SQUARE, held),
            ((NEVER[0], SQUARE[0]), (*held, ())), ((NEVER[0], SQUARE[0]), ("held", True, held[2])),
            ((NEVER[0], SQUARE[0]), ("held", 1, (*held[2][:3], ()))), ((NEVER[0], SQUARE[0]), ("held", 1, held[2][:3])),
            ((), ("held", 0, None)), ((SQUARE[0], NEVER[0]), held),
        ):
            self.assertIs(is_emptiness(u, bad), False, bad)
        for bad in ANYTHING:
            self.assertIs(is_emptiness(NEVER, bad), False)
        tree = follows(NEVER[0], ONE, (("x",),))[1]
        self.assertIs(is_emptiness(NEVER[:1], ("empty", (tree,))), True)

    def test_light_kinds(self):
        for kind in kinds.KINDS:
            rng = rng_of("empty" + kind)
            for _ in range(25):
                u = union_of_system(kinds.question(rng, kind)[0])
                self.paper(u)


class EqualTest(unittest.TestCase):
    def within(self, u, v):
        """The answer, when papers and pairs were judged."""
        paper = containment(u, v)
        self.assertIs(is_containment(u, v, paper), True)
        outside = both(u, without(v))
        self.assertIs(is_emptiness(outside, paper), True)
        self.assertIs(is_within(u, v), paper[0] == "empty")
        other = ("held", 0, None) if paper[0] == "empty" else ("empty", ())
        self.assertIs(is_containment(u, v, other), False)
        return paper[0] == "empty"

    def test_known(self):
        x, y, xy = union((["x"],)), union((["y"],)), union((["x*y"],))
        for u, v, one, two in (
            (x, xy, True, False), (x, y, False, False), (either(x, y), xy, True, True), ((), x, True, False),
            ((), (), True, True), ((TRUE,), (TRUE,), True, True), (x, (TRUE,), True, False), (NEVER, (), True, True),
            (SQUARE, PARTS, True, True), (PARTS[:1], SQUARE, True, False), (NEVER, SQUARE, True, False),
            (without(x), union(([], ["x"])), True, True), (union((["x'"],)), union((["x''"],)), True, False),
            (union((["x^2 - 1"],)), union((["x - 1"],), (["x + 1"],)), True, True),
            (union((["x - y", "x - 1"],)), union((["x*y - 1", "x - y"],)), True, False),
        ):
            self.assertIs(self.within(u, v), one)
            self.assertIs(self.within(v, u), two)
            pair = sameness(u, v)
            self.assertIs(is_sameness(u, v, pair), True)
            self.assertEqual([paper[0] == "empty" for paper in pair], [one, two])
            self.assertIs(is_equal(u, v), one and two)
            self.assertIs(is_equal(v, u), one and two)

    def test_pairs(self):
        u, v = union((["x"],)), union((["x*y"],))
        pair = sameness(u, v)
        for bad in (pair[::-1], pair[:1], (*pair, ()), list(pair), (pair[0], None), (None, pair[1]), pair[0], None, (), 0):
            self.assertIs(is_sameness(u, v, bad), False)
        self.assertIs(is_sameness(v, u, pair[::-1]), True)
        self.assertIs(is_sameness(v, u, pair), False)

    def test_exclusive_is_equal(self):
        rng = rng_of(60)
        for _ in range(40):
            rows = [polynomial(rng, letters("xy", [0]), 1, 2) for _ in range(3)] + [read("x'")]
            u = random_union(rng, rows)
            self.assertIs(is_equal(u, exclusive(u)), True)
            self.assertIs(is_within(both(u, u), u), True)
            self.assertIs(is_equal(without(without(u)), u), True)


if __name__ == "__main__":
    unittest.main()
