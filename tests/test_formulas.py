"""Points 52, 53, 54, 56: formulas, their papers, deciding."""

import unittest

from ratesay.conditions import TRUE, both, either, is_union, single, true_at, without
from ratesay.errors import BadFormula, BadName, BadPaper, TooGreat
from ratesay.formulas import decide, eliminate, free_names, is_decision, is_formula, union_of
from ratesay.polynomials import names_of
from ratesay.texts import read
from tests import kinds
from tests.helpers import ANYTHING, NO_POLYNOMIALS, polys, rng_of
from tests.kinds import other_words
from tests.times import planted, random_functions, solves

ZERO = ("zero", ())


def zero(text):
    return ("zero", read(text))


def no(f):
    return ("not", f)


def some(name, f):
    return ("some", name, f)


def every(name, f):
    return ("all", name, f)


def deep(count, f=ZERO):
    """A formula so many deep."""
    for _ in range(count - 1):
        f = ("not", f)
    return f


def wide(count):
    """A formula with so many parts, an odd number, not too deep."""
    if count == 1:
        return ZERO
    left = (count - 1) // 2
    left -= 1 - left % 2
    return ("and", wide(left), wide(count - 1 - left))


EXAMPLE = every("u", some("x", ("and", zero("x' - u*x"), no(zero("x")))))
OPEN = every("x", no(("and", zero("x^2 - u"), zero("x'"))))
NO_FORMULAS = [
    None, 0, "zero", (), ("zero",), ("zero", 1), ("zero", (), ()), ["zero", ()], ("Zero", ()), ("not",), ("not", ()),
    ("not", ZERO, ZERO), ("and", ZERO), ("and", ZERO, ()), ("or", ZERO, ZERO, ZERO), ("xor", ZERO, ZERO), ("some", "x"),
    ("some", ZERO, "x"), ("some", "X", ZERO), ("some", 1, ZERO), ("all", "x", None), ("all", "x", ZERO, ZERO), (ZERO,),
    ("not", ["zero", ()]), (["not"], ZERO), (True, ZERO), ("some", "abcdefghi", ZERO),
]


class FormTest(unittest.TestCase):
    def test_is_formula(self):
        for f in (ZERO, zero("x'*y - 2"), no(ZERO), ("and", ZERO, zero("1")), ("or", zero("x"), ZERO), some("x", ZERO),
                  every("y", zero("x")), EXAMPLE, OPEN, deep(20), wide(59), no(wide(59)), some("x", some("x", ZERO))):
            self.assertIs(is_formula(f), True, f)
        for bad in [*NO_FORMULAS, *ANYTHING, *[("zero", p) for p in NO_POLYNOMIALS]]:
            self.assertIs(is_formula(bad), False, bad)
            for call in (lambda f: free_names(f), lambda f: eliminate(f), lambda f: decide(f), lambda f: union_of(f, None),
                         lambda f: is_decision(f, None, None)):
                self.assertRaises(BadFormula, call, bad)

    def test_bounds(self):
        quantified = some("x", every("y", some("x", every("z", ZERO))))
        for f, what in (
            (no(no(wide(59))), "parts"), (wide(61), "parts"), (deep(21), "depth"), (some("x", quantified), "quantifiers"),
            (("and", quantified, some("x", ZERO)), "quantifiers"), (deep(61), "parts"),
            (deep(17, some("x", quantified)), "depth"), (("and", wide(55), some("x", quantified)), "parts"),
        ):
            self.assertIs(is_formula(f), False)
            for call in (lambda f: free_names(f), lambda f: eliminate(f), lambda f: decide(f), lambda f: union_of(f, None),
                         lambda f: is_decision(f, None, None)):
                with self.assertRaises(TooGreat) as caught:
                    call(f)
                self.assertEqual(caught.exception.what, what)
        for f in (no(wide(59)), deep(20), quantified, deep(16, quantified)):
            self.assertIs(is_formula(f), True)
        self.assertIs(is_formula(wide(59)), True)

    def test_free_names(self):
        for f, names in (
            (ZERO, ()), (zero("y' - x*b"), ("b", "x", "y")), (some("x", zero("x - y")), ("y",)), (some("z", zero("x")), ("x",)),
            (("and", some("x", zero("x")), zero("x")), ("x",)), (some("x", every("x", zero("x"))), ()), (EXAMPLE, ()),
            (OPEN, ("u",)), (every("x", ("or", zero("x*z"), some("z", zero("z + x + a")))), ("a", "z")),
            (some("x", ("and", zero("x"), some("x", zero("x - w")))), ("w",)),
        ):
            self.assertEqual(free_names(f), names)


class UnionOfTest(unittest.TestCase):
    def bad(self, f, paper):
        self.assertRaises(BadPaper, union_of, f, paper)

    def test_plain_words(self):
        a, b = zero("x"), zero("2*y - 2")
        u, v = single(read("x")), single(read("2*y - 2"))
        for f, paper, answer in (
            (a, (), u), (ZERO, (), (TRUE,)), (zero("3"), (), ()), (no(a), ((),), without(u)),
            (("and", a, b), ((), ()), both(u, v)), (("or", a, b), ((), ()), either(u, v)),
            (no(("or", no(a), b)), ((((),), ()),), without(either(without(u), v))),
        ):
            self.assertEqual(union_of(f, paper), answer)
            self.assertEqual(eliminate(f), (answer, paper))
        for f, papers in (
            (a, [None, [], ((),), 0, "x"]),
            (no(a), [(), ((), ()), None, [()], (None,), (((),),), ([],)]),
            (("and", a, b), [(), ((),), ((), (), ()), ((), None), (((),), ()), [(), ()]]),
            (("or", a, b), [(), ((),), ((), (), ()), (None, ())]),
            (some("x", a), [(), ((),), ((), (), ()), ((), None), ((), []), (None, ()), ((), ())]),
            (every("x", a), [(), ((),), ((), (), ()), ((), None), ((), []), (None, ()), ((), ())]),
        ):
            for paper in papers:
                self.bad(f, paper)

    def test_quantifiers(self):
        rng = rng_of(53)
        seen = 0
        while seen < 40:
            f = kinds.formula(rng)
            if f[0] not in ("some", "all"):
                continue
            union, paper = eliminate(f)
            self.assertTrue(is_union(union))
            self.assertEqual(union_of(f, paper), union)
            inner, entries = paper
            self.bad(f, (inner, (*entries, ((), ()))))
            self.bad(f, (inner, list(entries)))
            self.bad(f, (inner, None))
            if entries:
                seen += 1
                self.bad(f, (inner, entries[1:]))
                self.bad(f, (inner, (None, *entries[1:])))
                self.bad(f, (inner, ((entries[0][0], entries[0][1] + ((),)), *entries[1:])))
                self.bad(f, (inner, ((entries[0][0][:-1], entries[0][1]), *entries[1:])))
                if len(entries) > 1 and entries[0] != entries[1]:
                    self.bad(f, (inner, entries[::-1]))

    def test_names_that_do_not_occur(self):
        f = some("w", zero("x*y - 1"))
        self.assertEqual(eliminate(f), (single(read("x*y - 1")), ((), ())))
        f = every("w", zero("x*y - 1"))
        self.assertEqual(eliminate(f)[0], single(read("x*y - 1")))
        f = some("x", zero("x*y - 1"))
        self.assertEqual(eliminate(f)[0], (((), polys("y")),))

    def test_order_of_errors(self):
        def big(count):
            found = zero("x + 1")
            for k in range(2, count + 1):
                found = ("or", found, zero(f"x + {k}"))
            return found
        def product(first):
            """A formula with four conditions."""
            return ("or", ("or", zero(f"{first} + 1"), zero(f"{first} + 2")), ("or", zero(f"{first} + 3"), zero(f"{first} + 4")))
        pairs = ((), ())
        four = (pairs, pairs)
        great = ("and", ("and", product("a"), product("b")), ("and", product("c"), product("d")))
        paper = ((four, four), (four, four))
        with self.assertRaises(TooGreat) as caught:
            union_of(great, paper)
        self.assertEqual(caught.exception.what, "conditions")
        self.assertRaises(TooGreat, eliminate, great)
        # What is within goes first, from the left; the kind and length of a paper go ahead of that.
        self.assertRaises(BadPaper, union_of, ("and", ZERO, great), (None, paper))
        self.assertRaises(TooGreat, union_of, ("and", ZERO, great), ((), paper))
        self.assertRaises(TooGreat, union_of, ("and", great, ZERO), (paper, None))
        self.assertRaises(BadPaper, union_of, ("and", great, ZERO), (paper,))
        self.assertRaises(BadPaper, union_of, some("x", great), (paper,))
        self.assertRaises(TooGreat, union_of, some("x", great), (paper, None))
        self.assertRaises(TooGreat, union_of, every("x", great), (paper, None))
        three = ("and", ("and", product("a"), product("b")), product("c"))
        inner = ((four, four), four)
        self.assertEqual(len(eliminate(three)[0]), 64)
        # without of the 64 conditions is too great, and comes ahead of the entries.
        self.assertRaises(BadPaper, union_of, some("x", three), (inner, None))
        pairs8 = ("and", zero("p0"), zero("q0"))
        told = ((), ())
        for k in range(1, 8):
            pairs8 = ("or", pairs8, ("and", zero(f"p{k}"), zero(f"q{k}")))
            told = (told, ((), ()))
        self.assertRaises(TooGreat, union_of, every("x", pairs8), (told, None))
        self.assertRaises(BadPaper, union_of, some("x", pairs8), (told, None))
        self.assertRaises(TooGreat, union_of, no(pairs8), (told,))
        self.assertEqual(len(eliminate(big(20))[0]), 20)


class DecideTest(unittest.TestCase):
    def decided(self, f):
        answer, paper = decide(f)
        self.assertIs(is_decision(f, answer, paper), True)
        self.assertIs(is_decision(f, not answer, paper), False)
        for other in (1, 0, None, "True", (), (TRUE,), 1.0):
            self.assertIs(is_decision(f, other, paper), False)
        for other in (None, (), (paper,), [paper]):
            if other != paper:
                self.assertIs(is_decision(f, answer, other), False)
        self.assertEqual(union_of(f, paper), (TRUE,) if answer else ())
        return answer

    def test_examples(self):
        self.assertIs(self.decided(EXAMPLE), True)
        union, paper = eliminate(OPEN)
        self.assertEqual(union, (((), polys("u", "u'")),))
        self.assertEqual(union_of(OPEN, paper), union)

    def test_known_sentences(self):
        for f, answer in (
            (ZERO, True), (zero("2"), False), (some("x", zero("x")), True), (every("x", zero("x")), False),
            (some("x", zero("x^2 + 1")), True), (some("x", zero("x'^2 + 1")), True), (every("x", some("y", zero("y' - x"))), True),
            (some("x", every("y", zero("x*y"))), True), (every("x", some("y", zero("x*y - 1"))), False),
            (every("x", ("or", zero("x"), some("y", zero("x*y - 1")))), True),
            (every("x", some("y", zero("y^2 - x"))), True), (every("x", some("y", zero("y^2 - x*y'"))), True),
            (some("x", ("and", zero("x' - 1"), zero("x^2 - x"))), False),
            (every("x", ("or", no(zero("x^2 - 2")), zero("x'"))), True),
            (every("x", ("or", no(zero("x'")), zero("x^2 - 2"))), False),
            (some("x", ("and", zero("x'"), no(zero("x")))), True),
            (every("x", every("y", ("or", no(zero("x*y")), ("or", zero("x"), zero("y"))))), True),
            (every("x", every("y", ("or", no(zero("x*y' - x'*y")), zero("x")))), False),
            (some("x", some("y", ("and", zero("x - y"), no(zero("x' - y'"))))), False),
            (every("x", ("or", no(zero("x'' + x")), zero("x[3] + x'"))), True),
            (every("x", ("or", no(zero("x'^2 - 4*x")), zero("x''*x' - 2*x'"))), True),
            (every("x", ("or", no(zero("x'^2 - 4*x")), zero("x'' - 2"))), False),
            (some("x", zero("x - x - 1")), False),
            (every("u", every("v", some("x", ("and", zero("x' - u"), zero("x'' - v"))))), False),
            (some("u", every("v", zero("v' - u*v"))), False),
            (every("x", some("x", zero("x' - 1"))), True),
        ):
            self.assertIs(self.decided(f), answer, f)
            self.assertIs(self.decided(no(f)), not answer)
            self.assertIs(self.decided(other_words(f)), answer)

    def test_light_kinds(self):
        rng = rng_of(56)
        decided = 0
        for _ in range(500):
            f = kinds.formula(rng)
            union, paper = eliminate(f)
            self.assertEqual(union_of(f, paper), union)
            if free_names(f):
                names = sorted({name for side in union for part in side for p in part for name in names_of(p)})
                self.assertLessEqual(set(names), set(free_names(f)))
                continue
            decided += 1
            answer = self.decided(f)
            if rng.random() < 0.3:
                self.assertIs(self.decided(no(f)), not answer)
                self.assertIs(self.decided(other_words(f)), answer)
        self.assertGreater(decided, 100)

    def test_without_quantifiers_at_functions(self):
        rng = rng_of(57)
        for _ in range(200):
            names, rows = kinds.formula_parts(rng)
            f = ("or", no(("zero", rows[0])), ("zero", rows[-1]))
            row = random_functions(rng, names)
            answer = not solves(((rows[0],), ()), row) or solves(((rows[-1],), ()), row)
            self.assertIs(true_at(eliminate(f)[0], row), answer)

    def test_some_at_functions(self):
        # x is told: y = x^2 and the like.
        f = some("x", ("and", zero("x^2 - y"), zero("x' - 1")))
        union = eliminate(f)[0]
        for row, answer in (([0, 0, 1], True), ([1, 2, 1], True), ([0, 1], False), ([], False), ([4], False), ([0, 0, 4], False)):
            self.assertIs(true_at(union, planted(y=row)), answer)
        union = eliminate(every("x", ("or", zero("x*y"), no(zero("x' - y")))))[0]
        for row, answer in (([], True), ([1], False), ([0, 1], False)):
            self.assertIs(true_at(union, planted(y=row)), answer)

    def test_free_names_are_refused(self):
        for f, name in ((OPEN, "u"), (zero("y - a"), "a"), (some("a", zero("y - a + b")), "b")):
            for call in (lambda f: decide(f), lambda f: is_decision(f, True, None)):
                with self.assertRaises(BadName) as caught:
                    call(f)
                self.assertEqual(caught.exception.name, name)


if __name__ == "__main__":
    unittest.main()
