"""Point 33: the lines of trees, letter by letter."""

import unittest

from ratesay.polynomials import number
from ratesay.texts import read
from ratesay.trees import lines
from tests.helpers import ANYTHING, polys, system
from tests.test_trees import CASE, CASES, EXAMPLE, GOAL, SHOWN, leaf

ONE = number((1, 1))


class LinesTest(unittest.TestCase):
    def test_first_example(self):
        self.assertEqual(
            lines(EXAMPLE, GOAL, SHOWN),
            (
                "node 0",
                "E0: -4*x + x'^2 = 0, given",
                "N0: x is not 0, given",
                "split by x': nodes 1 and 2",
                "node 1",
                "E1: x' = 0, assumed",
                "E2: -4*x = 0, sum of (1)*E0 + (-x')*E1",
                "contradiction: E2 and N0 are alike",
                "node 2",
                "N1: x' is not 0, assumed",
                "E1: -4*x' + 2*x'*x'' = 0, rate of E0",
                "goal: E1 and f^1*N1 are alike",
            ),
        )

    def test_second_example(self):
        self.assertEqual(
            lines(system(["x'^2 - 4*x"]), None, CASES),
            (
                "node 0",
                "E0: -4*x + x'^2 = 0, given",
                "split by x': nodes 1 and 2",
                "node 1",
                "E1: x' = 0, assumed",
                "E2: -4*x = 0, sum of (1)*E0 + (-x')*E1",
                "case: E2; ",
                "node 2",
                "N0: x' is not 0, assumed",
                "N1: 4*x is not 0, N0^2 plus (-1)*E0",
                "case: E0; N1",
            ),
        )

    def told(self, told, steps, end=CASE, goal=None):
        """The lines of a tree of one node, but for those of what is given."""
        found = lines(told, goal, leaf(steps, end))
        self.assertEqual(found[0], "node 0")
        return found[1 + len(told[0]) + len(told[1]):]

    def test_given(self):
        found = lines(system(["x", "-y + 1/2"], ["z[3]", "0", "-2"]), None, leaf([]))
        self.assertEqual(
            found,
            ("node 0", "E0: x = 0, given", "E1: 1/2 - y = 0, given", "N0: z[3] is not 0, given", "N1: 0 is not 0, given",
             "N2: -2 is not 0, given", "case: ; "),
        )
        self.assertEqual(lines(((), ()), None, leaf([])), ("node 0", "case: ; "))

    def test_sums(self):
        rows = system(["x", "y"])
        steps = [("sum", ()), ("sum", ((1, read("x - 2")),)), ("sum", ((1, read("x")), (0, read("-y")))), ("sum", ((0, ()), (0, ONE)))]
        self.assertEqual(
            self.told(rows, steps),
            ("E2: 0 = 0, sum of nothing", "E3: x*y - 2*y = 0, sum of (-2 + x)*E1", "E4: 0 = 0, sum of (x)*E1 + (-y)*E0",
             "E5: x = 0, sum of (0)*E0 + (1)*E0", "case: ; "),
        )

    def test_cancel_root_rate(self):
        rows = (polys("x*y^2*z", "9*x^2 - 18*x + 9"), polys("y", "2*z", "w"))
        steps = [
            ("cancel", 0, read("x*z"), ((0, 2),)),
            ("cancel", 0, read("x"), ((0, 2), (1, 1))),
            ("cancel", 0, read("x*y^2*z"), ()),
            ("root", 1, read("1 - x"), 2),
            ("rate", 3),
            ("rate", 6),
        ]
        self.assertEqual(
            self.told(rows, steps),
            ("E2: x*z = 0, E0 without N0^2", "E3: x = 0, E0 without N0^2*N1", "E4: x*y^2*z = 0, E0 without 1",
             "E5: 1 - x = 0, root 2 of E1", "E6: x' = 0, rate of E3", "E7: x'' = 0, rate of E6", "case: ; "),
        )

    def test_nonzero_divisor(self):
        rows = (polys("x", "y"), polys("a", "b"))
        steps = [
            ("nonzero", ((0, 2), (1, 1)), ((0, read("y")), (1, read("2")))),
            ("nonzero", ((0, 1), (1, 3)), ()),
            ("nonzero", (), ()),
            ("nonzero", (), ((1, ONE),)),
            ("divisor", ((0, 2), (1, 1)), read("a*b"), read("3*a")),
            ("divisor", (), read("7"), ONE),
        ]
        self.assertEqual(
            self.told(rows, steps),
            ("N2: a^2*b + x*y + 2*y is not 0, N0^2*N1 plus (y)*E0 + (2)*E1", "N3: a*b^3 is not 0, N0*N1^3", "N4: 1 is not 0, 1",
             "N5: 1 + y is not 0, 1 plus (1)*E1", "N6: a*b is not 0, divides N0^2*N1", "N7: 7 is not 0, divides 1", "case: ; "),
        )

    def test_ends(self):
        rows = (polys("a^2*b", "x", "5", "x^2*a"), polys("a", "b"))
        ends = {
            ("contradiction", 0, ((0, 2), (1, 1))): "contradiction: E0 and N0^2*N1 are alike",
            ("contradiction", 2, ()): "contradiction: E2 and 1 are alike",
            ("goal", 1, 1, ()): "goal: E1 and f^1 are alike",
            ("goal", 3, 2, ((0, 1),)): "goal: E3 and f^2*N0 are alike",
            ("case", (0, 3), (1,)): "case: E0, E3; N1",
            ("case", (3, 0, 1), (1, 0)): "case: E3, E0, E1; N1, N0",
            ("case", (1,), ()): "case: E1; ",
            ("case", (), (1,)): "case: ; N1",
            ("case", (), ()): "case: ; ",
        }
        for end, line in ends.items():
            self.assertEqual(self.told(rows, [], end, read("x")), (line,))

    def test_goal_with_several_factors(self):
        rows = (polys("x*a^2*b"), polys("a", "b"))
        self.assertEqual(self.told(rows, [], ("goal", 0, 1, ((0, 2), (1, 1))), read("-x")), ("goal: E0 and f^1*N0^2*N1 are alike",))

    def test_nodes_in_the_order_of_their_numbers(self):
        tree = (
            ((("nonzero", (), ()),), ("split", read("-x + 1/2"), 3, 1)),
            ((("rate", 0),), ("split", (), 2, 4)),
            ((), CASE),
            ((), CASE),
            ((), ("case", (), (2,))),
        )
        self.assertEqual(
            lines(system(["y"]), None, tree),
            (
                "node 0", "E0: y = 0, given", "N0: 1 is not 0, 1", "split by 1/2 - x: nodes 3 and 1",
                "node 1", "N1: 1/2 - x is not 0, assumed", "E1: y' = 0, rate of E0", "split by 0: nodes 2 and 4",
                "node 2", "E2: 0 = 0, assumed", "case: ; ",
                "node 3", "E1: 1/2 - x = 0, assumed", "case: ; ",
                "node 4", "N2: 0 is not 0, assumed", "case: ; N2",
            ),
        )

    def test_no_right_tree(self):
        for value in ANYTHING:
            self.assertIsNone(lines(EXAMPLE, GOAL, value))
        self.assertIsNone(lines(EXAMPLE, None, SHOWN))
        self.assertIsNone(lines(EXAMPLE, read("x'' - 3"), SHOWN))
        self.assertIsNone(lines(EXAMPLE, GOAL, SHOWN[:2]))
        self.assertIsNone(lines(((), ()), None, leaf([("sum", ((0, ONE),))])))


if __name__ == "__main__":
    unittest.main()
