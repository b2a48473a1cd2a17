"""Points 13 and 14: rankings, leaders, initials, separants, ranks."""

import unittest

from ratesay import rankings
from ratesay.errors import BadLetter, BadPolynomial, BadRanking, NoLeader
from ratesay.polynomials import number
from ratesay.rankings import initial, is_below, is_ranking, leader, leading_degree, rank, separant
from ratesay.texts import read
from tests.helpers import NO_POLYNOMIALS, random_polynomial, rng_of

NO_RANKINGS = [
    None, True, 0, "x", [], [("x",)], ("x",), (["x"],), ((),), (("x",), ()), (("x", "x"),), (("x",), ("x",)),
    (("x", "y"), ("z", "x")), (("X",),), (("",),), (("abcdefghi",),), ((1,),), ((True,),), ((("x",),),), (("x\n",),),
    (("x", None),), {"x": 0}, ({"x"},), (("1x",),),
]
MANY = tuple((f"n{k}", f"m{k}") for k in range(20))


class RankingsTest(unittest.TestCase):
    def test_is_ranking(self):
        for value in ((), (("x",),), (("x", "y"),), (("x",), ("y",)), (("b", "a"), ("abcdefgh",), ("a1", "c")), MANY):
            self.assertIs(is_ranking(value), True, value)
        for value in NO_RANKINGS:
            self.assertIs(is_ranking(value), False, value)

    def test_one_block(self):
        ranking = (("x", "y"),)
        ascending = [("y", 0), ("x", 0), ("y", 1), ("x", 1), ("y", 2), ("x", 2), ("y", 20), ("x", 20), ("x", 21)]
        self.check_ascending(ascending, ranking)

    def test_several_blocks(self):
        ascending = [("a", 0), ("a", 1), ("a", 20), ("c", 0), ("c", 9), ("b", 0), ("b", 20)]
        self.check_ascending(ascending, (("b",), ("c",), ("a",)))

    def test_mixed_blocks(self):
        ascending = [("z", 0), ("z", 7), ("x", 0), ("y", 0), ("x", 1), ("y", 1), ("x", 12), ("y", 12), ("w", 0), ("w", 3)]
        self.check_ascending(ascending, (("w",), ("y", "x"), ("z",)))

    def test_twelve_names(self):
        ranking = (tuple(f"abcdef{k:02}" for k in range(6)), tuple(f"abcdef{k:02}" for k in range(6, 12)))
        ascending = [(f"abcdef{k:02}", 20) for k in range(11, 5, -1)] + [(f"abcdef{k:02}", 0) for k in range(5, -1, -1)]
        self.check_ascending(ascending, ranking)

    def check_ascending(self, ascending, ranking):
        for i, v in enumerate(ascending):
            for j, w in enumerate(ascending):
                self.assertIs(is_below(v, w, ranking), i < j, (v, w))

    def test_rates_keep_the_order(self):
        ranking = (("w",), ("y", "x"), ("z",))
        letters = [(name, k) for name in "wxyz" for k in range(4)]
        for v in letters:
            self.assertIs(is_below(v, (v[0], v[1] + 1), ranking), True)
            for w in letters:
                if is_below(v, w, ranking):
                    self.assertIs(is_below((v[0], v[1] + 1), (w[0], w[1] + 1), ranking), True)

    def test_is_below_errors(self):
        good, ranking = ("x", 0), (("x", "y"),)
        for bad in (None, "x", ("x",), ("x", -1), ("x", True), ["x", 0], ("X", 0), (1, 0)):
            for other in (good, None):
                with self.assertRaises(BadLetter) as caught:
                    is_below(bad, other, None)
                self.assertEqual(caught.exception.letter, bad)
            with self.assertRaises(BadLetter) as caught:
                is_below(good, bad, None)
            self.assertEqual(caught.exception.letter, bad)
        for bad in NO_RANKINGS:
            with self.assertRaises(BadRanking):
                is_below(good, good, bad)
        for v, w in ((("z", 0), good), (good, ("z", 0))):
            with self.assertRaises(BadRanking):
                is_below(v, w, ranking)


class LeadersTest(unittest.TestCase):
    def test_example(self):
        ranking, p = (("x", "y"),), read("x'*y'^2 - 4*x")
        self.assertEqual(leader(p, ranking), ("x", 1))
        self.assertEqual(leading_degree(p, ranking), 1)
        self.assertEqual(initial(p, ranking), read("y'^2"))
        self.assertEqual(separant(p, ranking), read("y'^2"))
        self.assertEqual(rank(p, ranking), (("x", 1), 1))

    def test_other_rankings(self):
        p = read("x'*y'^2 - 4*x + 1")
        self.assertEqual(rank(p, (("y", "x"),)), (("y", 1), 2))
        self.assertEqual(initial(p, (("y",), ("x",))), read("x'"))
        self.assertEqual(separant(p, (("y",), ("x",))), read("2*x'*y'"))
        self.assertEqual(rank(p, (("a",), ("x",), ("y",))), (("x", 1), 1))
        self.assertEqual(rank(read("3*x^4 - x*z + z"), (("x",), ("z",))), (("x", 0), 4))
        self.assertEqual(initial(read("3*x^4*z - x^4"), (("x",), ("z",))), read("3*z - 1"))
        self.assertEqual(separant(read("3*x^4*z - x^4"), (("x",), ("z",))), read("12*x^3*z - 4*x^3"))

    def test_no_letter(self):
        for p in ((), number((1, 1)), number((-7, 3))):
            for ranking in ((), (("x",),)):
                self.assertIsNone(leader(p, ranking))
                for function in (leading_degree, initial, separant, rank):
                    with self.assertRaises(NoLeader):
                        function(p, ranking)

    def test_errors(self):
        for function in (leader, leading_degree, initial, separant, rank):
            for value in NO_POLYNOMIALS:
                with self.assertRaises(BadPolynomial):
                    function(value, None)
            for value in NO_RANKINGS:
                for p in (read("x"), number((1, 1))):
                    with self.assertRaises(BadRanking):
                        function(p, value)
            for ranking in ((), (("y",),), (("x",), ("z",))):
                with self.assertRaises(BadRanking):
                    function(read("x*y"), ranking)

    def test_random(self):
        rng = rng_of(1)
        ranking = (("b", "a"), ("c",))
        letters = [(name, k) for name in "abc" for k in range(3)]
        for _ in range(200):
            p = random_polynomial(rng, letters, 3, 4)
            v = leader(p, ranking)
            found = {w for monomial, _ in p for w, _ in monomial}
            if not found:
                self.assertIsNone(v)
                continue
            self.assertTrue(all(w == v or is_below(w, v, ranking) for w in found))
            top = max(e for monomial, _ in p for w, e in monomial if w == v)
            self.assertEqual(rank(p, ranking), (v, top))

    def test_each_function_stands_in_its_file(self):
        for name in "is_ranking is_below leader leading_degree initial separant rank".split():
            self.assertEqual(getattr(rankings, name).__module__, "ratesay.rankings")


if __name__ == "__main__":
    unittest.main()
