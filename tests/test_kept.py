"""Points 81 to 86 as the heading ratesay/kept.py names them: what stays the same along explicit equations."""

import unittest
from fractions import Fraction

from ratesay.errors import BadExplicit, BadNumber, BadPolynomial, TooGreat
from ratesay.kept import (
    is_fraction_paper, is_kept, is_kept_fraction, is_kept_set, kept, kept_fraction, kept_set, kept_with,
)
from ratesay.polynomials import UNIT, alike, as_number, number, plus, put, scaled, times
from ratesay.texts import read
from ratesay.timed import rate_along, rates_along
from ratesay.towers import is_inverse, rest_of
from tests.helpers import ANYTHING, NO_POLYNOMIALS, polys, random_polynomial, rng_of
from tests.test_laws_of import order_key
from tests.test_timed import CIRCLE, CLOCK, NO_SYSTEMS, explicit

LINE = explicit(x="y", y="0")
GROWN = explicit(x="p*x", p="0")
EATEN = explicit(x="x - x*y", y="x*y - y")
FIELD = explicit(x="x", y="2*y")


def known_base(g, l, n):
    """The told base of the f of degree at most n with L f = l f, by plain elimination."""
    letters = [(name, 0) for name, _ in g]
    monomials = {()}
    for _ in range(n):
        monomials |= {tuple(sorted((dict(m) | {v: dict(m).get(v, 0) + 1}).items())) for m in monomials for v in letters}
    monomials = sorted(monomials, key=order_key, reverse=True)
    images = []
    for m in monomials:
        v = ((m, (1, 1)),)
        images.append(dict(plus(rate_along(g, v), scaled(times(l, v), (-1, 1)))))
    rows = [[Fraction(*image.get(m, (0, 1))) for image in images] for m in sorted({m for image in images for m in image})]
    pivots = []
    for column in range(len(monomials)):
        found = [k for k in range(len(pivots), len(rows)) if rows[k][column]]
        if found:
            at = len(pivots)
            rows[at], rows[found[0]] = rows[found[0]], rows[at]
            rows[at] = [n / rows[at][column] for n in rows[at]]
            for k in range(len(rows)):
                if k != at and rows[k][column]:
                    rows[k] = [a - rows[k][column] * b for a, b in zip(rows[k], rows[at])]
            pivots.append(column)
    base = []
    for column in range(len(monomials) - 1, -1, -1):
        if column not in pivots:
            table = {monomials[column]: (1, 1)}
            for row, pivot in zip(rows, pivots):
                if row[column]:
                    table[monomials[pivot]] = ((-row[column]).numerator, (-row[column]).denominator)
            base.append(tuple(sorted(table.items())))
    return tuple(base)


def light(rng, many=None, degree=2):
    """A light explicit system."""
    names = ["x", "y", "z"][:many or rng.randint(1, 2)]
    among = [(name, 0) for name in names]
    return tuple((name, random_polynomial(rng, among, degree, rng.randint(0, 4), 9, True)) for name in names)


class ErrorTest(unittest.TestCase):
    def raises(self, error, call, *arguments, **fields):
        with self.assertRaises(error) as caught:
            call(*arguments)
        for name, worth in fields.items():
            self.assertEqual(getattr(caught.exception, name), worth)


class KeptTest(ErrorTest):
    def test_examples(self):
        self.assertEqual(kept(CIRCLE, 2), polys("x^2 + y^2", "1"))
        self.assertEqual(kept(CIRCLE, 1), polys("1"))
        self.assertEqual(kept(CIRCLE, 0), polys("1"))
        self.assertEqual(kept(LINE, 2), polys("y^2", "y", "1"))
        self.assertEqual(kept(GROWN, 2), polys("p^2", "p", "1"))
        self.assertEqual(kept(CLOCK, 8), polys("1"))
        self.assertEqual(kept(explicit(x="0"), 2), polys("x^2", "x", "1"))
        self.assertEqual(kept(explicit(x="y^2", y="x^2"), 3), polys("x^3 - y^3", "1"))
        self.assertEqual(len(kept(CIRCLE, 8)), 5)

    def test_factors(self):
        self.assertEqual(kept_with(FIELD, read("2"), 2), polys("x^2", "y"))
        self.assertEqual(kept_with(FIELD, read("1"), 2), polys("x"))
        self.assertEqual(kept_with(FIELD, read("1/2"), 4), ())
        self.assertEqual(kept_with(FIELD, (), 3), polys("1"))
        self.assertEqual(kept_with(EATEN, read("1 - y"), 3), polys("x"))
        self.assertEqual(kept_with(EATEN, read("x - y"), 3), polys("x*y"))
        self.assertEqual(kept_with(GROWN, read("p"), 3), polys("p^2*x", "p*x", "x"))
        self.assertEqual(kept_with(CIRCLE, (), 2), kept(CIRCLE, 2))
        self.assertEqual(kept_with(FIELD, read("x"), 8), ())

    def test_told_bases(self):
        rng = rng_of(11)
        for at in range(60):
            g = light(rng, rng.randint(1, 3))
            n = rng.randint(0, 3 if len(g) < 3 else 2)
            l = () if rng.random() < 0.5 else random_polynomial(rng, [(name, 0) for name, _ in g], 1, 2, 3, True)
            self.assertEqual(kept_with(g, l, n), known_base(g, l, n))
            self.assertEqual(kept(g, n), known_base(g, (), n))
        # A planted kept polynomial: x' = h_y f, y' = - h_x f.
        for text, x, y in (("x^2*y - y", "x^2 - 1", "-2*x*y"), ("x^3 + y", "1", "-3*x^2"), ("x*y + 2*y^2", "x + 4*y", "-y")):
            base = kept(explicit(x=x, y=y), 3)
            total = sum(1 for p in base if alike(p, read(text)))
            self.assertEqual(total, 1, text)

    def test_is_kept(self):
        self.assertIs(is_kept(CIRCLE, read("x^2 + y^2 - 5")), True)
        self.assertIs(is_kept(CIRCLE, read("x^2 - y^2")), False)
        self.assertIs(is_kept(CIRCLE, ()), True)
        self.assertIs(is_kept(GROWN, read("p^3 - 1/2")), True)

    def test_bounds(self):
        six = explicit(**{f"n{k}": "0" for k in range(6)})
        three = explicit(a="b", b="c", c="a")
        self.assertEqual(len(kept(six, 3)), 84)
        self.assertEqual(len(kept(three, 6)) > 0, True)
        for g, n in ((six, 4), (three, 7), (three, 8), (six, 8)):
            self.raises(TooGreat, kept, g, n, what="monomials")
            self.raises(TooGreat, kept_with, g, UNIT, n, what="monomials")
        seven = tuple((f"n{k}", ()) for k in range(7))
        self.assertEqual(len(kept(seven, 1)), 8)
        self.assertEqual(len(kept(CIRCLE, 8)), 5)

    def test_errors_in_their_order(self):
        for g in NO_SYSTEMS:
            for call in (kept, is_kept, kept_set, kept_fraction):
                self.raises(BadExplicit, call, g, None)
            for call in (kept_with, is_kept_fraction, is_kept_set, is_fraction_paper):
                self.raises(BadExplicit, call, g, None, None)
        for p in [*NO_POLYNOMIALS, read("z"), read("x'")]:
            self.raises(BadPolynomial, kept_with, CIRCLE, p, 9)
            self.raises(BadPolynomial, is_kept, CIRCLE, p)
            self.raises(BadPolynomial, is_kept_fraction, CIRCLE, p, UNIT)
            self.raises(BadPolynomial, is_kept_fraction, CIRCLE, UNIT, p)
            self.raises(BadPolynomial, kept_set, CIRCLE, (p,))
        self.raises(BadPolynomial, is_kept_fraction, CIRCLE, UNIT, ())
        big = explicit(**{f"n{k}": "0" for k in range(6)})
        for n in (-1, 9, True, None, "1", (1, 1), 100):
            self.raises(BadNumber, kept, big, n, number=n)
            self.raises(BadNumber, kept_with, big, UNIT, n, number=n)
            self.raises(BadNumber, kept_fraction, big, n, number=n)
            self.raises(BadNumber, is_fraction_paper, big, n, None, number=n)
        self.raises(BadNumber, kept_fraction, CIRCLE, 0, number=0)
        self.raises(BadNumber, is_fraction_paper, CIRCLE, 0, None, number=0)
        own = [((),), ((), ()), ((), (), ())]
        for ps in [*ANYTHING, *own, polys("1"), polys("x", "0"), polys("x", "2/3"), polys("x", "x", "x", "x", "x"), list(polys("x"))]:
            self.raises(BadPolynomial, kept_set, CIRCLE, ps)
            self.raises(BadPolynomial, is_kept_set, CIRCLE, ps, None)


class SetTest(ErrorTest):
    def paper(self, g, ps, word):
        found = kept_set(g, ps)
        self.assertEqual(found[0], word, ps)
        self.assertIs(is_kept_set(g, ps, found), True)
        if word == "left":
            _, tower, point, i, k, turn = found
            rows = tuple(zip([(name, 0) for name, _ in g], point))
            for p in ps:
                self.assertEqual(rest_of(tower, put(p, rows)), ())
            worth = rates_along(g, ps[i], k)[k]
            self.assertIs(is_inverse(tower, rest_of(tower, put(worth, rows)), turn), True)
        return found

    def test_one_equation(self):
        for g, p, word in ((CIRCLE, "x^2 + y^2 - 1", "kept"), (CIRCLE, "x^2 + y^2", "kept"), (CIRCLE, "x", "left"), (CIRCLE, "x^2", "left"),
                           (CLOCK, "x", "left"), (CLOCK, "x^2", "left"), (CLOCK, "x^3 - x^2", "left"), (EATEN, "x*y", "kept"),
                           (EATEN, "x", "kept"), (EATEN, "x - y", "left"), (GROWN, "x", "kept"), (GROWN, "p", "kept"), (GROWN, "p*x - 1", "left"),
                           (explicit(x="x^2 - 2"), "x^2 - 2", "kept"), (explicit(x="x^2 - 2"), "x^2 - 3", "left"),
                           (explicit(x="x^2 - 2"), "(x^2 - 2)^2", "kept"), (FIELD, "y - x^2", "kept"), (FIELD, "(y - x^2)^2", "kept"),
                           (FIELD, "y^2 - 2*x^2*y + x^4", "kept"), (FIELD, "y - x", "left"), (explicit(x="0", y="0"), "x^2 + y", "kept"),
                           (explicit(a="b", b="c", c="a"), "a^2 - b", "left"), (explicit(a="a", b="b", c="c"), "a^2 - b*c", "kept")):
            found = self.paper(g, polys(p), word)
            if word == "kept":
                self.assertEqual(found[3], ())
        example = ("left", (), ((),), 0, 2, number((1, 2)))
        self.assertIs(is_kept_set(CLOCK, polys("x^2"), example), True)
        self.assertEqual(kept_set(CLOCK, polys("x^2")), example)

    def test_several_equations(self):
        for g, ps, word in ((CIRCLE, ("x", "y"), "kept"), (CIRCLE, ("x^2", "y^2"), "kept"), (CIRCLE, ("x", "y - 1"), "left"),
                            (CIRCLE, ("x^2 + y^2 - 1", "x*y"), "left"), (CIRCLE, ("x^2 + y^2 - 1", "x^2 + y^2 - 2"), "kept"),
                            (EATEN, ("x*y", "x^2 - x"), "left"), (EATEN, ("x*y", "x^2"), "kept"), (FIELD, ("x*y - x", "x^2 - x"), "left"),
                            (explicit(x="x", y="y - 1"), ("x*y - x", "x^2"), "kept"), (explicit(x="x^2 - 2", y="y"), ("x^2 - 2", "y*x"), "kept"),
                            (explicit(x="y^2 - 3", y="x^2 - 2"), ("x^2 - 2", "y - x"), "left"),
                            (explicit(a="b", b="c", c="a"), ("a - b", "b - c"), "kept"), (explicit(a="b", b="c", c="a"), ("a", "b"), "left"),
                            (explicit(a="b", b="c", c="a"), ("a^2", "b^2", "c^2"), "kept"),
                            (explicit(a="0", b="a*b", c="b"), ("a", "b", "c", "a - 2*b"), "kept")):
            self.paper(g, polys(*ps), word)

    def test_towers(self):
        found = self.paper(explicit(x="y^2 - 3", y="x^2 - 5"), polys("x^2 - 2", "y - x"), "left")
        self.assertEqual(len(found[1]), 1)
        found = self.paper(explicit(x="1", y="1"), polys("x^2 - 2", "y^2 - 3"), "left")
        self.assertEqual(len(found[1]), 2)

    def test_light_kinds(self):
        rng = rng_of(12)
        words = []
        for at in range(150):
            g = light(rng)
            among = [(name, 0) for name, _ in g]
            ps = []
            while len(ps) < 1 + at % 2:
                p = random_polynomial(rng, among, 2, rng.randint(1, 4), 9, True)
                if rng.random() < 0.4:
                    low = random_polynomial(rng, among, 1, 2, 3, True)
                    p = times(low, low if rng.random() < 0.5 else random_polynomial(rng, among, 1, 2, 3, True))
                if as_number(p) is None:
                    ps.append(p)
            found = kept_set(g, tuple(ps))
            words.append(found[0])
            self.paper(g, tuple(ps), found[0])
        self.assertGreater(words.count("kept"), 20)
        self.assertGreater(words.count("left"), 20)

    def test_wrong_kept_papers(self):
        g, ps = CIRCLE, polys("x^2", "y^2")
        right = kept_set(g, ps)
        word, members, rows, trees = right
        self.assertEqual(word, "kept")
        wrong = [*ANYTHING, right[:3], (*right, 0), list(right), ("Kept", *right[1:]), (word, members[::-1], rows, trees),
                 (word, list(members), rows, trees), (word, members, list(rows), trees), (word, members, rows, list(trees)),
                 (word, members, rows[:-1], trees), (word, members, rows, trees[:-1]), (word, members, rows, (*trees, trees[0])),
                 (word, members, rows, trees[::-1]), (word, members[:-1], rows, trees), (word, ps, (polys("0", "0"),) * 2, ()),
                 (word, (*members, UNIT), rows, trees), (word, members, (rows[0][:-1], *rows[1:]), trees), (word, (), (), ()),
                 (word, members, rows, (((),),) * len(trees)), (word, None, rows, trees), (word, members, None, trees),
                 (word, members, (*rows[:-1], list(rows[-1])), trees), (word, members, (*rows[:-1], rows[0]), trees)]
        for paper in wrong:
            self.assertIs(is_kept_set(g, ps, paper), False, paper)
        for at, row in enumerate(rows):
            for k, p in enumerate(row):
                bent = (*row[:k], plus(p, read("x")), *row[k + 1:])
                self.assertIs(is_kept_set(g, ps, (word, members, (*rows[:at], bent, *rows[at + 1:]), trees)), False)
        # A letter that g lacks.
        self.assertIs(is_kept_set(g, ps, (word, members, (polys("z", *["0"] * (len(members) - 1)), *rows[1:]), trees)), False)
        # A further member with a tree of its own: 0, or a multiple of a member.
        more = (*members, ())
        tree = ((("sum", ()),), ("goal", 2, 1, ()))
        whole = tuple((*row, ()) for row in rows)
        self.assertIs(is_kept_set(g, ps, (word, more, (*whole, (UNIT,) + ((),) * len(members)), (*trees, (tree,)))), False)
        self.assertIs(is_kept_set(g, ps, (word, more, (*whole, ((),) * len(more)), (*trees, (tree,)))), True)
        self.assertIs(is_kept_set(g, ps, (word, more, (*whole, ((),) * len(members) + (read("y"),)), (*trees, (tree,)))), True)
        # Rows with others in the place of those that were found: x^2 y^2 - y^2 x^2 = 0.
        other = (plus(rows[0][0], read("y^2")), plus(rows[0][1], read("-x^2")), *rows[0][2:])
        self.assertIs(is_kept_set(g, ps, (word, members, (other, *rows[1:]), trees)), True)
        # A set that is left has no such paper.
        self.assertIs(is_kept_set(g, polys("x"), (word, polys("x"), (polys("0"),), ())), False)

    def test_wrong_left_papers(self):
        g, ps = explicit(x="y^2 - 3", y="x^2 - 2"), polys("x^2 - 2", "y - x")
        right = kept_set(g, ps)
        word, tower, point, i, k, turn = right
        x, y = point
        wrong = [right[:5], (*right, 0), list(right), ("Left", *right[1:]), (word, (), point, i, k, turn), (word, tower, point[::-1][:1], i, k, turn),
                 (word, tower, (x,), i, k, turn), (word, tower, (x, y, y), i, k, turn), (word, tower, list(point), i, k, turn),
                 (word, tower, (scaled(x, (2, 1)), y), i, k, turn), (word, tower, (x, UNIT), i, k, turn), (word, tower, point, 2, k, turn),
                 (word, tower, point, -1, k, turn), (word, tower, point, True, k, turn), (word, tower, point, i, 0, turn),
                 (word, tower, point, i, -1, turn), (word, tower, point, i, True, turn), (word, tower, point, i, 61, turn),
                 (word, tower, point, i, k, scaled(turn, (2, 1))), (word, tower, point, i, k, ()), (word, tower, point, i, k, None),
                 (word, tower, point, i, k, read("x")), (word, None, point, i, k, turn), (word, tower, point, None, k, turn),
                 (word, tower, (x, read("root[2]")), i, k, turn), (word, (UNIT,), point, i, k, turn), (word, tower, (x, None), i, k, turn)]
        for paper in wrong:
            self.assertIs(is_kept_set(g, ps, paper), False, paper)
        self.assertIs(is_kept_set(g, ps, right), True)
        # The other root, with its own inverse.
        if tower:
            minus = tuple(scaled(u, (-1, 1)) for u in point)
            self.assertIs(is_kept_set(g, ps, (word, tower, minus, i, k, scaled(turn, (-1, 1)))), k % 2 == 1 and i == 0)

    def test_great_rates(self):
        # x' = x: each rate of x - 1 is x.
        g, ps = explicit(x="x"), polys("x - 1")
        for k, right in ((1, True), (2, True), (24, True), (60, True), (61, False)):
            self.assertIs(is_kept_set(g, ps, ("left", (), (UNIT,), 0, k, UNIT)), right)
        # x' = x^2: the k-th rate of x is k! x^(k + 1).
        g, worth = explicit(x="x^2"), 1
        for k in range(1, 61):
            worth *= k
            self.assertIs(is_kept_set(g, ps, ("left", (), (UNIT,), 0, k, number((1, worth)))), True)
        self.assertIs(is_kept_set(g, ps, ("left", (), (UNIT,), 0, 61, number((1, worth * 61)))), False)


class FractionTest(ErrorTest):
    def paper(self, g, n, word):
        found = kept_fraction(g, n)
        self.assertEqual(found[0], word, g)
        self.assertIs(is_fraction_paper(g, n, found), True)
        if word == "some":
            self.assertIs(is_kept_fraction(g, found[1], found[2]), True)
        return found

    def test_examples(self):
        self.paper(CIRCLE, 1, "none")
        self.paper(CIRCLE, 2, "some")
        self.paper(LINE, 1, "some")
        self.assertIs(is_fraction_paper(CIRCLE, 1, ("none", ((1, 1), (0, 1)))), True)
        self.assertIs(is_fraction_paper(CIRCLE, 1, ("none", ((3, 5), (-4, 7)))), True)
        self.assertIs(is_fraction_paper(CIRCLE, 1, ("none", ((0, 1), (0, 1)))), False)
        self.assertIs(is_fraction_paper(LINE, 1, ("some", *polys("-y", "-y^2"))), True)
        self.assertIs(is_fraction_paper(LINE, 1, ("some", *polys("y", "1"))), True)
        self.assertIs(is_fraction_paper(LINE, 1, ("some", *polys("1", "y^3 - 2"))), True)

    def test_known_systems(self):
        for g, n, word in ((CLOCK, 1, "none"), (CLOCK, 5, "none"), (explicit(x="0"), 1, "some"), (FIELD, 1, "none"), (FIELD, 2, "some"),
                           (explicit(x="x", y="y"), 1, "some"), (EATEN, 2, "none"), (explicit(x="x^2", y="y^2"), 2, "some"),
                           (explicit(x="x*y", y="y^2"), 1, "some"), (explicit(a="a", b="b", c="c", d="d", e="e"), 1, "some"),
                           (explicit(a="a", b="2*b", c="4*c", d="8*d", e="16*e"), 1, "none"), (explicit(x="x^2 + 1", y="x*y"), 2, "some"),
                           (GROWN, 1, "some"), (explicit(x="x", y="-y"), 2, "some")):
            found = self.paper(g, n, word)
            if word == "some":
                self.assertIs(alike(found[1], found[2]), False)

    def test_light_kinds(self):
        rng = rng_of(13)
        for at in range(80):
            g = light(rng, rng.randint(1, 3) if at % 4 == 0 else None)
            n = rng.randint(1, {1: 5, 2: 2}.get(len(g), 1))
            self.paper(g, n, kept_fraction(g, n)[0])

    def test_is_kept_fraction(self):
        for p, q, right in (("x", "x", True), ("0", "x", True), ("x^2 + y^2", "1", True), ("x", "y", False), ("1", "x^2 + y^2", True),
                            ("x^3 + x*y^2", "x", True), ("x^2", "1", False)):
            self.assertIs(is_kept_fraction(CIRCLE, read(p), read(q)), right)
        self.assertIs(is_kept_fraction(FIELD, read("y"), read("x^2")), True)

    def test_wrong_papers(self):
        for paper in [*ANYTHING, ("none",), ("none", ((1, 1),)), ("none", ((1, 1), (0, 1), (0, 1))), ("none", [(1, 1), (0, 1)]), ("None", ((1, 1), (0, 1))),
                      ("none", ((2, 2), (0, 1))), ("none", ((1, 1), (0, 1)), 0), ["none", ((1, 1), (0, 1))], ("none", (UNIT, ())), ("none", None),
                      ("none", (1, 0)), ("some", *polys("1", "1")), ("some", *polys("x", "2*x")), ("some", *polys("0", "x")), ("some", *polys("x", "y"))]:
            self.assertIs(is_fraction_paper(CIRCLE, 1, paper), False, paper)
        right = ("some", *polys("x^2 + y^2", "1"))
        self.assertIs(is_fraction_paper(CIRCLE, 2, right), True)
        self.assertIs(is_fraction_paper(CIRCLE, 1, right), True)
        for paper in [right[:2], (*right, 0), list(right), ("some", right[2], ()), ("some", None, UNIT), ("some", *polys("z", "1")),
                      ("some", *polys("x^2 + y^2", "0")), ("some", *polys("x^2 + y^2", "x'")), ("some", *polys("x^2 - y^2", "1")), ("none", *right[1:]),
                      ("none", ((1, 1), (0, 1)))]:
            self.assertIs(is_fraction_paper(CIRCLE, 2, paper), False, paper)

    def test_bounds(self):
        self.assertEqual(kept_fraction(explicit(**{f"n{k}": "0" for k in range(5)}), 1)[0], "some")
        for g, n in ((CLOCK, 6), (CIRCLE, 3), (explicit(a="b", b="c", c="a"), 2), (explicit(**{f"n{k}": "0" for k in range(6)}), 1)):
            self.raises(TooGreat, kept_fraction, g, n, what="monomials")
            self.raises(TooGreat, is_fraction_paper, g, n, None, what="monomials")


if __name__ == "__main__":
    unittest.main()
