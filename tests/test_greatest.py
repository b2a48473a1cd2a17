"""Rests, cases, trees and homes at the sizes that may be passed."""

import unittest

from ratesay.homes import is_cases, is_home
from ratesay.polynomials import letter, number, plus, power, scaled, times
from ratesay.rankings import is_below, leader, rank
from ratesay.remainders import follow, identity, is_reduced, partial_rest, whole_rest
from ratesay.simple import free_names, holds_in, is_case, is_shown_simple, obligations, part_below
from ratesay.trees import is_refuted, judged, lines
from tests import reference
from tests.helpers import random_polynomial, rng_of

ONE = number((1, 1))
NAMES = tuple("abcdef" + digits for digits in "00 01 02 03 04 05 06 07 08 09 10 11".split())
LEADING, FREE = NAMES[:8], NAMES[8:]
RANKING = (LEADING[:4], LEADING[4:], FREE)


def great_inequations(rng):
    """Eight polynomials of up to 60 pairs and the degree 12 in free functions."""
    letters = [(name, k) for name in FREE for k in (0, 7, 20)]
    return tuple(random_polynomial(rng, letters, 12, 60, 10 ** 200) for _ in range(8))


def great_case(rng):
    """Eight equations with leaders of the order 20 or 19, and eight inequations."""
    letters = [(name, k) for name in FREE for k in (0, 20)]
    equations = []
    for k, name in enumerate(LEADING):
        low = plus(letter(LEADING[k + 1], 3) if k < 7 else (), random_polynomial(rng, letters, 2, 20, 10 ** 200))
        equations.append(plus(letter(name, 20 - k % 2), low))
    return (tuple(equations), great_inequations(rng))


class GreatestTest(unittest.TestCase):
    def test_rankings(self):
        p = great_inequations(rng_of(1))[0]
        v, e = rank(p, RANKING)
        self.assertEqual(leader(p, RANKING), v)
        self.assertGreaterEqual(e, 1)
        self.assertIs(is_below((NAMES[11], 20), (NAMES[0], 0), RANKING), True)
        self.assertIs(is_below((NAMES[3], 20), (NAMES[0], 20), RANKING), True)

    def test_rests(self):
        equations, _ = great_case(rng_of(2))
        f = plus(letter(LEADING[0], 20), scaled(letter(LEADING[5], 20), (10 ** 199 + 1, 10 ** 199)))
        for rests in (partial_rest, whole_rest):
            steps, rest = rests(f, equations, RANKING)
            self.assertEqual(follow(f, equations, RANKING, steps), rest)
            factors, rows = identity(f, equations, RANKING, steps)
            self.assertTrue(rows)
        self.assertIs(is_reduced(rest, equations, RANKING), True)

    def test_cases(self):
        case = great_case(rng_of(3))
        self.assertIs(is_case(case, RANKING), True)
        self.assertEqual(free_names(case, RANKING), FREE)
        self.assertEqual(part_below(case, RANKING, (LEADING[0], 20)), (case[0][1:], case[1]))
        self.assertEqual(part_below(case, RANKING, (FREE[0], 0)), ((), ()))
        asked = obligations(case, RANKING)
        self.assertEqual([row[0] for row in asked], ["initial", "separant"] * 8 + ["inequation"] * 8)
        f = plus(times(letter(FREE[0], 0), case[0][0]), scaled(case[0][7], (-3, 7)))
        self.assertIs(holds_in(case, RANKING, f), True)
        self.assertIs(holds_in(case, RANKING, plus(f, letter(FREE[3], 20))), False)

    def test_backing_and_home(self):
        rng = rng_of(4)
        equations = great_case(rng)[0]
        inequations = tuple(letter(name, 20) for name in FREE) + tuple(letter(name, 0) for name in FREE)
        case = (equations, inequations)
        trees = []
        for word, _, (first, _) in obligations(case, RANKING):
            self.assertEqual(first[-1], ONE)
            trees.append((((), ("contradiction", len(first) - 1, ())),))
        self.assertIs(is_shown_simple(case, RANKING, tuple(trees)), True)
        self.assertIs(is_shown_simple(case, RANKING, tuple(trees[:-1])), False)
        steps = tuple(((i, 0, 0, ONE),) for i in range(8))
        shown = tuple((((), ("contradiction", 8, ((j, 1),))),) for j in range(8))
        self.assertIs(is_home(case, RANKING, case, (steps, shown)), True)
        self.assertIs(is_home(case, RANKING, case, (steps[::-1], shown)), False)
        paper = ((((), ("case", tuple(range(8)), tuple(range(8)))),), ((tuple(trees), (steps, shown)),))
        self.assertIs(is_cases(case, RANKING, (case,), paper), True)
        self.assertIs(is_cases(case, RANKING, (case[::-1],), paper), False)

    def test_trees(self):
        rng = rng_of(5)
        letters = [(name, k) for name in NAMES[:8] for k in (0, 20)]
        first = tuple(random_polynomial(rng, letters, 12, 60, 10 ** 200) for _ in range(8))
        second = tuple(random_polynomial(rng, letters, 12, 60, 10 ** 200) for _ in range(8))
        told = (first, second)
        product = times(second[0], second[7])
        nodes = (
            ((("rate", 0), ("sum", tuple((i % 8, first[7 - i % 8]) for i in range(10)))), ("split", product, 1, 2)),
            ((("rate", 10),), ("contradiction", 10, ((0, 1), (7, 1)))),
            ((("nonzero", ((1, 1), (2, 1)), ((3, ONE),)), ("divisor", ((8, 1),), second[0], second[7])), ("split", first[2], 4, 3)),
            ((), ("goal", 2, 1, ())),
            ((), ("goal", 10, 1, ())),
        )
        found = judged(told, first[2], nodes)
        self.assertEqual(found, ())
        self.assertEqual(found, reference.judge(told, first[2], nodes))
        self.assertEqual(len(lines(told, first[2], nodes)), 5 + 16 + 4 + 6 + 5 - 1)
        self.assertIs(is_refuted(told, nodes), False)
        self.assertIsNone(judged(told, first[3], nodes))

    def test_high_powers(self):
        told = ((power(letter(NAMES[0], 20), 12),), (letter(NAMES[1], 20), scaled(letter(NAMES[2], 20), (10 ** 60, 1))))
        steps = (("root", 0, letter(NAMES[0], 20), 12), ("rate", 1), ("nonzero", ((0, 60), (1, 60)), ()))
        found = judged(told, None, ((steps, ("case", (2,), (2,))),))
        equations, inequations = found[0][2]
        self.assertEqual(equations, (letter(NAMES[0], 21),))
        self.assertEqual(inequations[0][0][1], (10 ** 3600, 1))
        self.assertIn("10", lines(told, None, ((steps, ("case", (2,), (2,))),))[6])


if __name__ == "__main__":
    unittest.main()
