"""Points 39 and 41: towers, their numbers, and where a number is 0."""

import unittest

from ratesay.errors import BadPolynomial, BadTower, NotSquareFree
from ratesay.polynomials import degree, less, letter, number, plus, power, put, scaled, times
from ratesay.texts import read
from ratesay.towers import degree_of, is_inverse, is_tower, parts_of, product_in, rest_of
from tests.helpers import ANYTHING, NO_POLYNOMIALS, rng_of
from tests.kinds import polynomial

ONE = number((1, 1))
ROOTS = [letter("root", i) for i in range(7)]
GREAT = 10 ** 200 - 1


def rooted(text):
    """The polynomial of a text in which a, b, c, d, e, f stand for the root letters."""
    rows = tuple((("abcdef"[i], 0), ROOTS[i]) for i in range(6))
    return put(read(text), tuple(((v[0], v[1]), p) for v, p in rows))


def tower(*texts):
    return tuple(rooted(text) for text in texts)


SIX = tower("a^2 - 2", "b^2 - 3", "c^2 - a", "d^2 + b*c - 5", "e^2 - 7", "f^2 + f*a + 11")
NO_TOWERS = [
    (rooted("1"),),
    (rooted("0"),),
    tower("2*a - 1"),
    tower("b^2 - 2"),
    tower("a^2 - 2", "a^2 - 3"),
    tower("a^2 - 2", "b^2 - a^2"),
    tower("a^2 - 2", "b^2 - a^3"),
    tower("a^2 - 2", "a*b^2 - 1"),
    tower("a^2 - 2", "c - 1"),
    tower("a^2 - b", "b - 1"),
    tower("-a + 1"),
    (read("x^2 - 2"),),
    (read("root' - 2"),),
    (plus(power(ROOTS[0], 2), letter("root", 1)),),
    [rooted("a - 1")],
    rooted("a - 1"),
    (rooted("a - 1"), None),
    ([],),
]


def random_number(rng, told, pairs=5):
    """A number of a tower."""
    among = [("root", i) for i in range(len(told))]
    return rest_of(told, polynomial(rng, among, 4, pairs)) if among else number((rng.randint(-9, 9), 1))


class TowerTest(unittest.TestCase):
    def test_is_tower(self):
        for value in ((), tower("a"), tower("a - 5"), tower("a^2 - 2"), tower("a^2", "b^2 - a*b + 1/2"), SIX, SIX[:3],
                      tower("a^3 - a - 1", "b^2 - a^2*b"), tower("a - 1", "b - 1"), tower("a^12 - 2")):
            self.assertIs(is_tower(value), True, value)
        for value in [*NO_TOWERS, *ANYTHING, *[(p,) for p in NO_POLYNOMIALS]]:
            if value != ():
                self.assertIs(is_tower(value), False, value)

    def test_degree(self):
        self.assertEqual(degree_of(()), 1)
        self.assertEqual(degree_of(SIX), 64)
        self.assertEqual(degree_of(tower("a^3 - 2", "b^2 - a")), 6)
        self.assertEqual(degree_of(tower("a - 2")), 1)

    def test_rest(self):
        told = tower("a^2 - 2", "b^2 - a")
        for text, answer in (("a^2", "2"), ("b^4", "2"), ("b^3*a", "2*b"), ("a*b", "a*b"), ("0", "0"), ("5", "5"),
                             ("a^12", "64"), ("b^12", "8"), ("b^3 + a^3*b", "a*b + 2*a*b")):
            self.assertEqual(rest_of(told, rooted(text)), rooted(answer), text)
        self.assertEqual(rest_of((), number((3, 7))), number((3, 7)))
        self.assertEqual(rest_of(tower("a - 5"), rooted("a^3 - a")), number((120, 1)))

    def test_rest_is_right(self):
        rng = rng_of(39)
        for told in (tower("a^3 - a - 1"), tower("a^2 - 2", "b^3 - a*b + 1"), SIX):
            among = [("root", i) for i in range(len(told))]
            for _ in range(25):
                p, q = polynomial(rng, among, 12, 4), polynomial(rng, among, 5, 4)
                low = rest_of(told, p)
                for i, member in enumerate(told):
                    self.assertLess(degree(low, ("root", i)), degree(member, ("root", i)))
                multiple = plus(p, times(q, rng.choice(told)))
                self.assertEqual(rest_of(told, multiple), low)
                self.assertEqual(rest_of(told, times(p, q)), product_in(told, low, rest_of(told, q)))

    def test_great_numbers(self):
        told = tower("a^2 - 2", "b^2 - a")
        u = plus(scaled(rooted("a*b"), (GREAT, 1)), scaled(rooted("b"), (1, GREAT)))
        # (g a b + b / g) ^ 2 = a (2 g^2 + 1 / g^2 + 2 a)
        answer = plus(scaled(rooted("a"), (2 * GREAT ** 4 + 1, GREAT ** 2)), number((4, 1)))
        self.assertEqual(product_in(told, u, u), answer)
        part, turn = parts_of(told, u)[0]
        self.assertEqual(part, told)
        self.assertIs(is_inverse(told, u, turn), True)

    def test_inverse(self):
        told = tower("a^2 - 2")
        self.assertIs(is_inverse(told, rooted("a"), rooted("1/2*a")), True)
        self.assertIs(is_inverse(told, rooted("a"), rooted("a")), False)
        self.assertIs(is_inverse(told, rooted("a - 1"), rooted("a + 1")), True)
        self.assertIs(is_inverse(told, (), ()), False)
        self.assertIs(is_inverse((), number((2, 3)), number((3, 2))), True)

    def test_errors(self):
        for bad in NO_TOWERS:
            for call in (lambda t: degree_of(t), lambda t: rest_of(t, None), lambda t: product_in(t, None, None),
                         lambda t: is_inverse(t, None, None), lambda t: parts_of(t, None)):
                self.assertRaises(BadTower, call, bad)
        told = tower("a^2 - 2")
        for bad in [*NO_POLYNOMIALS, read("x"), rooted("b"), read("root'")]:
            self.assertRaises(BadPolynomial, rest_of, told, bad)
        for bad in [*NO_POLYNOMIALS, read("x"), rooted("b"), rooted("a^2")]:
            self.assertRaises(BadPolynomial, product_in, told, bad, ONE)
            self.assertRaises(BadPolynomial, product_in, told, ONE, bad)
            self.assertRaises(BadPolynomial, is_inverse, told, bad, ONE)
            self.assertRaises(BadPolynomial, is_inverse, told, ONE, bad)
            self.assertRaises(BadPolynomial, parts_of, told, bad)
        self.assertRaises(BadPolynomial, rest_of, (), ROOTS[0])


class PartsTest(unittest.TestCase):
    def parts(self, told, u):
        """The parts, when each was looked at."""
        found = parts_of(told, u)
        self.assertEqual(sum(degree_of(part) for part, _ in found), degree_of(told))
        for part, turn in found:
            self.assertTrue(is_tower(part))
            self.assertEqual(len(part), len(told))
            for member in told:
                self.assertEqual(rest_of(part, member), ())
            worth = rest_of(part, u)
            if turn is None:
                self.assertEqual(worth, ())
            else:
                self.assertTrue(is_inverse(part, worth, turn))
            parts_of(part, ONE)
        return found

    def test_example(self):
        found = self.parts(tower("a^2 - 1"), rooted("a - 1"))
        self.assertEqual(set(found), {(tower("a - 1"), None), (tower("a + 1"), number((-1, 2)))})

    def test_no_and_all_zeros(self):
        self.assertEqual(self.parts((), number((5, 3))), (((), number((3, 5))),))
        self.assertEqual(self.parts((), ()), (((), None),))
        for told in (tower("a^2 - 2"), SIX[:4]):
            self.assertEqual(self.parts(told, ()), ((told, None),))
            self.assertEqual(self.parts(told, number((-2, 1))), ((told, number((-1, 2))),))
        self.assertEqual(len(self.parts(tower("a^2 - 2"), rooted("a - 1"))), 1)
        self.assertEqual(len(self.parts(SIX, rooted("a + b + 1"))), 1)

    def test_known_zeros(self):
        rng = rng_of(41)
        for _ in range(40):
            roots = [rng.sample(range(-4, 5), rng.randint(1, 3)) for _ in range(rng.randint(1, 3))]
            told = []
            for i, row in enumerate(roots):
                member = ONE
                for c in row:
                    member = times(member, less(ROOTS[i], number((c, 1))))
                told.append(member)
            told = tuple(told)
            u = random_number(rng, told)
            found = self.parts(told, u)
            zeros = [()]
            for row in roots:
                zeros = [(*zero, c) for zero in zeros for c in row]
            for zero in zeros:
                rows = tuple((("root", i), number((c, 1))) for i, c in enumerate(zero))
                inside = [turn for part, turn in found if all(put(p, rows) == () for p in part)]
                self.assertEqual(len(inside), 1)
                self.assertEqual(inside[0] is None, put(u, rows) == ())

    def test_parts_of_lower_members(self):
        told = tower("a^2 - 2", "b^2 - 2")
        self.assertEqual({turn is None for _, turn in self.parts(told, rooted("a - b"))}, {True, False})
        told = tower("a^2 - 1", "b^2 - a")
        self.parts(told, rooted("b - 1"))
        self.parts(told, rooted("(a - 1)*b + a + 1"))
        self.parts(told, rooted("b*a - a + b - 1"))

    def test_not_square_free(self):
        for told, place in (
            (tower("a^2"), 0),
            (tower("a^3 - 3*a + 2"), 0),
            (tower("a^2 - 2", "b^2 - 2*a*b + 2"), 1),
            (tower("a^2 - 2", "b^2", "c^2"), 1),
            (tower("a^2 - 1", "b^2 - 2*b + a"), 1),
            (tower("a^2 - 2", "b^2 - 3", "c^2 - a - b", "d^3"), 3),
        ):
            with self.assertRaises(NotSquareFree) as caught:
                parts_of(told, None)
            self.assertEqual(caught.exception.place, place)


if __name__ == "__main__":
    unittest.main()
