"""Points 11, 51, 55: conditions, unions, and whether they hold at functions of the time."""

import unittest

from ratesay.conditions import TRUE, both, either, is_condition, is_union, put, single, true_at, union_of_system, without
from ratesay.errors import BadCondition, BadPlanted, BadPolynomial, BadSystem, BadUnion, TooGreat
from ratesay.polynomials import as_number, letter, number, primitive, scaled
from ratesay.texts import read
from tests.helpers import ANYTHING, NO_POLYNOMIALS, polys, rng_of
from tests.kinds import letters, polynomial
from tests.test_planted import NO_FUNCTIONS
from tests.times import planted, random_functions, solves, told

X, Y, Z = polys("x", "y", "z")
NO_CONDITIONS = [
    (), (X,), ((X,), ()), ((X,), (), ()), [(), ()], ([], ()), ((), []), (polys("2*x"), ()), (polys("-x"), ()),
    (polys("1"), ()), ((), polys("3")), (((),), ()), ((X, X), ()), ((Y, X), ()), ((X,), (X,)), ((X, Y), (Y,)),
    (polys("1/2*x"), ()), ((), polys("x - y")), (X, ()), None, 0, "x",
]
NO_CONDITIONS.remove(((X,), ()))


def many(count, name="x", start=0):
    """So many conditions of one letter, no two alike."""
    return tuple(((read(f"x + {k}") if name == "x" else read(f"y + {k}"),), ()) for k in range(start + 1, start + count + 1))


def plain_put(condition, p, zero):
    """put, written from the words of point 51."""
    f = as_number(p)
    if f is not None:
        return condition if (f == (0, 1)) == zero else None
    q = primitive(p)[1]
    rows = [list(condition[0]), list(condition[1])]
    at = 0 if zero else 1
    if q in rows[1 - at]:
        return None
    if q not in rows[at]:
        rows[at] = sorted(rows[at] + [q])
    return (tuple(rows[0]), tuple(rows[1]))


def plain_either(u, v):
    found = list(u) + [c for c in v if c not in u]
    return (TRUE,) if TRUE in found else tuple(found)


def plain_both(u, v):
    found = []
    for first in u:
        for second in v:
            c = first
            for p, zero in [(p, True) for p in second[0]] + [(p, False) for p in second[1]]:
                c = plain_put(c, p, zero) if c is not None else None
            if c is not None and c not in found:
                found.append(c)
    return (TRUE,) if TRUE in found else tuple(found)


def plain_without(u):
    rows = [TRUE]
    for condition in u:
        found = []
        for c in rows:
            for p, zero in [(p, True) for p in condition[0]] + [(p, False) for p in condition[1]]:
                d = plain_put(c, p, not zero)
                if d is not None and d not in found:
                    found.append(d)
                c = plain_put(c, p, zero)
                if c is None:
                    break
        rows = found
    return (TRUE,) if TRUE in rows else tuple(rows)


def random_condition(rng, rows):
    """A condition made of some polynomials."""
    found = TRUE
    for _ in range(rng.randint(0, 3)):
        found = plain_put(found, rng.choice(rows), rng.random() < 0.5) or found
    return found


def random_union(rng, rows, most=3):
    """A union made of some polynomials."""
    found = []
    for _ in range(rng.randint(0, most)):
        condition = random_condition(rng, rows)
        if condition not in found:
            found.append(condition)
    return tuple(found)


class FormTest(unittest.TestCase):
    def test_conditions(self):
        for value in (TRUE, ((X,), ()), ((), (X,)), ((X,), (Y, Z)), (polys("x' - 2", "x"), ()), ((), polys("-x + y")),
                      (polys("2*x + 3*y"), polys("6*x'^2 + 35"))):
            self.assertIs(is_condition(value), list(value[0]) == sorted(value[0]), value)
        for value in [*NO_CONDITIONS, *ANYTHING]:
            if value != TRUE:
                self.assertIs(is_condition(value), False, value)

    def test_unions(self):
        for value in ((), (TRUE,), (TRUE, ((X,), ())), (((X,), ()), TRUE), many(200)):
            self.assertIs(is_union(value), True)
        for value in [*[(bad,) for bad in NO_CONDITIONS], (TRUE, TRUE), [TRUE], many(201), ((X,), ()), (many(3), many(3)),
                      *ANYTHING]:
            if value not in ((), (TRUE,)):
                self.assertIs(is_union(value), False, value)


class UnionsTest(unittest.TestCase):
    def test_put(self):
        condition = ((X,), (Y,))
        for p, zero, answer in (
            ((), True, condition), ((), False, None), (number((3, 2)), True, None), (number((3, 2)), False, condition),
            (X, True, condition), (X, False, None), (Y, True, None), (Y, False, condition),
            (scaled(X, (-5, 3)), True, condition), (scaled(Y, (-1, 7)), True, None),
            (Z, True, ((X, Z), (Y,))), (Z, False, ((X,), (Y, Z))), (read("w"), True, (polys("w", "x"), (Y,))),
            (read("2*x - 2*y"), False, ((X,), tuple(sorted([Y, read("-x + y")])))),
        ):
            self.assertEqual(put(condition, p, zero), answer)

    def test_single(self):
        self.assertEqual(single(()), (TRUE,))
        self.assertEqual(single(number((-2, 1))), ())
        self.assertEqual(single(read("4*x - 4*y")), ((polys("-x + y"), ()),))

    def test_to_the_letter(self):
        rng = rng_of(51)
        rows = [*polys("x", "y", "x - y", "x'", "2*y + 1", "0", "3"), read("x*y - 1")]
        for _ in range(400):
            u, v = random_union(rng, rows), random_union(rng, rows)
            self.assertEqual(either(u, v), plain_either(u, v))
            self.assertEqual(both(u, v), plain_both(u, v))
            self.assertEqual(without(u), plain_without(u))
            self.assertTrue(is_union(without(u)))
            p, zero = rng.choice(rows), rng.random() < 0.5
            condition = random_condition(rng, rows)
            self.assertEqual(put(condition, p, zero), plain_put(condition, p, zero))
            pair = tuple(tuple(rng.choice(rows) for _ in range(rng.randint(0, 3))) for _ in range(2))
            c = TRUE
            for q, at in [(q, True) for q in pair[0]] + [(q, False) for q in pair[1]]:
                c = plain_put(c, q, at) if c is not None else None
            self.assertEqual(union_of_system(pair), () if c is None else (c,))

    def test_known(self):
        self.assertEqual(without(()), (TRUE,))
        self.assertEqual(without((TRUE,)), ())
        self.assertEqual(without((TRUE, ((X,), ()))), ())
        self.assertEqual(without(((polys("u'"), polys("u")), (polys("u"), ()))), (((), polys("u", "u'")),))
        self.assertEqual(either((((X,), ()),), (TRUE,)), (TRUE,))
        self.assertEqual(either((TRUE, ((X,), ())), ()), (TRUE,))
        self.assertEqual(both((((X,), ()),), ()), ())
        self.assertEqual(both((((X,), ()),), (((), (X,)),)), ())
        self.assertEqual(both((TRUE, ((X,), ())), (TRUE,)), (TRUE,))
        self.assertEqual(union_of_system(((), ())), (TRUE,))
        self.assertEqual(union_of_system((polys("0"), polys("5"))), (TRUE,))
        self.assertEqual(union_of_system((polys("x"), polys("2*x"))), ())

    def great(self, call, *values):
        with self.assertRaises(TooGreat) as caught:
            call(*values)
        self.assertEqual(caught.exception.what, "conditions")

    def test_too_great(self):
        self.assertEqual(len(either(many(150), many(50, start=150))), 200)
        self.assertEqual(len(either(many(200), many(200))), 200)
        self.great(either, many(150), many(51, start=150))
        self.great(either, many(200), (TRUE,))
        self.assertEqual(either(many(199), (TRUE,)), (TRUE,))
        self.great(either, many(200), (*many(1, start=200), TRUE))
        self.assertEqual(len(both(many(20), many(10, "y"))), 200)
        self.great(both, many(67), many(3, "y"))
        self.great(both, (*many(20), TRUE), (*many(9, "y"), TRUE))
        for call in (either, both):
            self.great(call, many(201), None)
            self.great(call, (), many(201))
        self.great(without, many(201))
        self.great(true_at, many(201), None)

    def test_too_great_on_the_way(self):
        def pairs(k, count):
            names = [f"n{k}{j}" for j in range(count)]
            return (tuple(sorted(letter(name, 0) for name in names)), ())
        # 2 ** 7 conditions are let; 2 ** 8 are too many, also if a later condition leaves few.
        self.assertEqual(len(without(tuple(pairs(k, 2) for k in range(7)))), 128)
        self.great(without, tuple(pairs(k, 2) for k in range(8)))
        self.great(without, (*[pairs(k, 2) for k in range(8)], TRUE))
        self.assertEqual(without((TRUE, *[pairs(k, 2) for k in range(8)])), ())
        self.assertEqual(len(without((pairs(0, 8), pairs(1, 5), pairs(2, 5)))), 200)
        self.great(without, (pairs(0, 8), pairs(1, 5), pairs(2, 6)))

    def test_facts_at_functions(self):
        rng = rng_of(52)
        for _ in range(250):
            rows = [polynomial(rng, letters("xy", [0, 1]), rng.randint(1, 2), 3) for _ in range(3)]
            u, v = random_union(rng, rows), random_union(rng, rows)
            row = random_functions(rng, "xy")
            first, second = true_at(u, row), true_at(v, row)
            self.assertIs(first, any(solves(c, row) for c in u))
            self.assertIs(true_at(either(u, v), row), first or second)
            self.assertIs(true_at(both(u, v), row), first and second)
            self.assertIs(true_at(without(u), row), not first)
            self.assertEqual(sum(solves(c, row) for c in without(u)), 0 if first else 1)
            self.assertIs(true_at(single(rows[0]), row), solves(((rows[0],), ()), row))

    def test_errors(self):
        for bad in NO_CONDITIONS:
            self.assertRaises(BadCondition, put, bad, None, True)
        for bad in NO_POLYNOMIALS:
            self.assertRaises(BadPolynomial, put, TRUE, bad, True)
            self.assertRaises(BadPolynomial, single, bad)
        for bad in [None, 0, [TRUE], (TRUE, TRUE), *[(c,) for c in NO_CONDITIONS], many(201) + many(1)]:
            self.assertRaises(BadUnion, without, bad)
            self.assertRaises(BadUnion, true_at, bad, None)
            for call in (either, both):
                self.assertRaises(BadUnion, call, bad, None)
                self.assertRaises(BadUnion, call, (), bad)
        for bad in ANYTHING:
            if bad != TRUE:
                self.assertRaises(BadSystem, union_of_system, bad)


class TrueAtTest(unittest.TestCase):
    def test_known(self):
        union = ((polys("x' - 2"), polys("y")), (polys("x"), ()))
        for row, answer in ((planted(x=[1, 2], y=[3]), True), (planted(x=[1, 2], y=[]), False), (planted(x=[], y=[]), True),
                            (planted(x=[5], y=[1]), False), (planted(x=[0, 2], y=[0, 0, 1], z=[1]), True)):
            self.assertIs(true_at(union, row), answer)
        self.assertIs(true_at((), ()), False)
        self.assertIs(true_at((TRUE,), ()), True)
        self.assertIs(true_at((TRUE,), planted(w=[1])), True)
        self.assertIs(true_at((((X,), ()),), planted(x=[])), True)

    def test_forty_coefficients(self):
        row = [k % 7 - 3 for k in range(39)] + [1]
        functions = (("x", told(row)), ("y", told([2 * k for k in row])))
        self.assertIs(true_at(((polys("-2*x + y"), polys("x*y' - x")),), functions), True)
        self.assertIs(true_at((((), (primitive(read("y^3 - 8*x^3"))[1],)),), functions), False)
        longer = (("x", told([1] * 60)),)
        self.assertIs(true_at((((), polys("x[20]")),), longer), True)

    def test_errors(self):
        for bad in NO_FUNCTIONS:
            self.assertRaises(BadPlanted, true_at, (), bad)
            self.assertRaises(BadPlanted, true_at, ((polys("x"), ()),), bad)
        self.assertRaises(BadPlanted, true_at, (((X,), ()),), ())
        self.assertRaises(BadPlanted, true_at, (TRUE, ((Y,), ())), planted(x=[]))
        self.assertRaises(BadPlanted, true_at, (((X,), ()), ((Y,), ())), planted(x=[]))
        self.assertRaises(BadPlanted, true_at, (((X,), (Y,)),), planted(x=[1]))
        self.assertRaises(BadPlanted, true_at, (((X, Y), ()),), planted(x=[1]))


if __name__ == "__main__":
    unittest.main()
