"""Points 27, 28, 32: trees, their steps, ends and bounds, and what they show."""

import unittest

from ratesay import trees
from ratesay.polynomials import number, power, times
from ratesay.texts import read
from ratesay.trees import is_plain, is_refuted, is_shown, judged, leaf_cases
from tests import reference
from tests.helpers import ANYTHING, NO_POLYNOMIALS, polys, random_polynomial, rng_of, system

ONE = number((1, 1))
CASE = ("case", (), ())
EXAMPLE = system(["x'^2 - 4*x"], ["x"])
GOAL = read("x'' - 2")
SHOWN = (
    ((), ("split", read("x'"), 1, 2)),
    ((("sum", ((0, ONE), (1, read("-x'")))),), ("contradiction", 2, ((0, 1),))),
    ((("rate", 0),), ("goal", 1, 1, ((1, 1),))),
)
CASES = (
    ((), ("split", read("x'"), 1, 2)),
    ((("sum", ((0, ONE), (1, read("-x'")))),), ("case", (2,), ())),
    ((("nonzero", ((0, 2),), ((0, read("-1")),)),), ("case", (0,), (1,))),
)


def leaf(steps, end=CASE):
    """A tree of one node."""
    return ((tuple(steps), end),)


def pairs(count, name="b"):
    """A polynomial with so many pairs."""
    return tuple((((((name, k), 1),)), (1, 1)) for k in range(count))


class TreeTest(unittest.TestCase):
    def right(self, told, tree, goal=None):
        found = judged(told, goal, tree)
        self.assertIsNotNone(found, tree)
        self.assertEqual(found, reference.judge(told, goal, tree))
        return found

    def wrong(self, told, tree, goal=None):
        self.assertIsNone(judged(told, goal, tree), tree)
        self.assertIsNone(reference.judge(told, goal, tree))

    def placed(self, told, *steps):
        """What the last step places, read off an open leaf."""
        side = 2 if steps[-1][0] in ("nonzero", "divisor") else 1
        count = len(told[side - 1]) + len([s for s in steps if (s[0] in ("nonzero", "divisor")) == (side == 2)])
        end = ("case", (count - 1,), ()) if side == 1 else ("case", (), (count - 1,))
        return self.right(told, leaf(steps, end))[0][2][side - 1][0]


class ExamplesTest(TreeTest):
    def test_first(self):
        self.assertEqual(self.right(EXAMPLE, SHOWN, GOAL), ())
        self.assertIs(is_shown(EXAMPLE, GOAL, SHOWN), True)
        self.assertIs(is_refuted(EXAMPLE, SHOWN), False)
        self.assertIs(is_shown(EXAMPLE, read("x'' - 3"), SHOWN), False)
        self.assertIs(is_shown(EXAMPLE, read("3*x'' - 6"), SHOWN), True)
        self.assertIsNone(judged(EXAMPLE, None, SHOWN))
        self.assertIsNone(leaf_cases(EXAMPLE, SHOWN))
        self.assertIs(is_plain(SHOWN), False)

    def test_second(self):
        told = system(["x'^2 - 4*x"])
        found = self.right(told, CASES)
        h = read("x'")
        self.assertEqual(found[0], (1, (told[0] + (h,), ()), (polys("-4*x"), ())))
        self.assertEqual(found[1], (2, (told[0], (h,)), (told[0], polys("4*x"))))
        self.assertEqual(len(found), 2)
        self.assertEqual(leaf_cases(told, CASES), ((polys("-4*x"), ()), (told[0], polys("4*x"))))
        self.assertIs(is_refuted(told, CASES), False)
        self.assertIs(is_shown(told, GOAL, CASES), False)
        self.assertIs(is_plain(CASES), True)

    def test_no_leaf_is_a_refutation(self):
        self.assertIs(is_refuted(system(["x"], ["2*x"]), leaf([], ("contradiction", 0, ((0, 1),)))), True)
        self.assertEqual(leaf_cases(system(["x"], ["2*x"]), leaf([], ("contradiction", 0, ((0, 1),)))), ())
        self.assertIs(is_refuted(system(["3"]), leaf([], ("contradiction", 0, ()))), True)
        self.assertIs(is_refuted(system([], ["0"]), leaf([("sum", ())], ("contradiction", 0, ((0, 1),)))), True)
        self.assertIs(is_refuted(((), ()), leaf([])), False)
        self.assertIs(is_refuted(((), ()), None), False)
        self.assertEqual(leaf_cases(((), ()), leaf([])), (((), ()),))

    def test_open_leaves_beside_goals(self):
        told = system(["x*y"])
        tree = (((), ("split", read("x"), 1, 2)), ((), ("goal", 1, 1, ())), ((), ("case", (0,), (0,))))
        found = self.right(told, tree, read("x"))
        self.assertEqual(found, ((2, (polys("x*y"), polys("x")), (polys("x*y"), polys("x"))),))
        self.assertIs(is_shown(told, read("x"), tree), False)

    def test_each_function_stands_in_its_file(self):
        for name in "judged is_refuted is_shown is_plain leaf_cases lines".split():
            self.assertEqual(getattr(trees, name).__module__, "ratesay.trees")


class StepsTest(TreeTest):
    def test_rate(self):
        told = system(["x*y", "x'"], ["z"])
        self.assertEqual(self.placed(told, ("rate", 0)), read("x'*y + x*y'"))
        self.assertEqual(self.placed(told, ("rate", 1), ("rate", 2)), read("x[3]"))
        for step in (("rate", 2), ("rate", -1), ("rate", True), ("rate", None), ("rate",), ("rate", 0, 0), ["rate", 0], ("Rate", 0)):
            self.wrong(told, leaf([step]))

    def test_sum(self):
        told = system(["x", "y - 1"])
        self.assertEqual(self.placed(told, ("sum", ())), ())
        self.assertEqual(self.placed(told, ("sum", ((1, read("x")), (0, read("-y")), (0, ONE), (1, ())))), ())
        self.assertEqual(self.placed(told, ("sum", ((1, ONE), (1, ONE)))), read("2*y - 2"))
        self.assertEqual(self.placed(told, ("rate", 0), ("sum", ((2, read("1/2")),))), read("1/2*x'"))
        for rows in ([], None, ((0, ONE, 1),), ((0,),), ([0, ONE],), ((2, ONE),), ((-1, ONE),), ((True, ONE),), (0, ONE), "", ((0, 1),)):
            self.wrong(told, leaf([("sum", rows)]))
        for value in NO_POLYNOMIALS:
            self.wrong(told, leaf([("sum", ((0, value),))]))
        self.wrong(told, leaf([("sum",)]))
        self.wrong(told, leaf([("sum", (), ())]))

    def test_cancel(self):
        told = system(["-2*x*y^2*z - 2*y^2", "0"], ["y", "3*z"])
        g = read("x*z + 1")
        self.assertEqual(self.placed(told, ("cancel", 0, g, ((0, 2),))), g)
        self.assertEqual(self.placed(told, ("cancel", 0, read("5*y*x*z + 5*y"), ((0, 1),))), read("5*y*x*z + 5*y"))
        self.assertEqual(self.placed(told, ("cancel", 0, told[0][0], ())), told[0][0])
        self.assertEqual(self.placed(told, ("cancel", 1, (), ((0, 60), (1, 60)))), ())
        for step in (("cancel", 0, g, ((0, 1),)), ("cancel", 0, g, ((0, 3),)), ("cancel", 0, g, ((0, 2), (1, 1))), ("cancel", 1, g, ((0, 2),)),
                     ("cancel", 0, read("x*z - 1"), ((0, 2),)), ("cancel", 0, (), ()), ("cancel", 2, g, ((0, 2),)),
                     ("cancel", False, g, ((0, 2),)), ("cancel", 0, g), ("cancel", 0, g, ((0, 2),), 1)):
            self.wrong(told, leaf([step]))
        self.powers_are_asked(told, lambda powers: leaf([("cancel", 0, g, powers)]), ((0, 2),))

    def powers_are_asked(self, told, made, good):
        """Wrong power rows in the place of a good one."""
        self.right(told, made(good))
        wrong = [None, [], list(good), 0, "", (0,), ((0,),), ((0, 2, 1),), ([0, 2],), ((0, 0), (1, 2)), ((0, True),), ((0, None),)]
        wrong.extend([((False, 2),), ((-1, 2),), ((9, 2),), ((0, -2),), ((0, 1), (0, 1)), ((0, 2), (0, 2)), ((1, 1), (0, 2))])
        for powers in wrong:
            self.wrong(told, made(powers))

    def test_root(self):
        g = read("x - y")
        told = polys("(2*x - 2*y)^3", "y", "0", "x"), ()
        self.assertEqual(self.placed(told, ("root", 0, g, 3)), g)
        self.assertEqual(self.placed(told, ("root", 0, read("y - x"), 3)), read("y - x"))
        self.assertEqual(self.placed((polys("1"), ()), ("root", 0, read("-5"), 2)), read("-5"))
        big = (((((("x", 0), 60),), (1, 1)),),)
        self.assertEqual(self.placed((big, ()), ("root", 0, read("x"), 60)), read("x"))
        self.assertEqual(self.placed(told, ("root", 2, (), 2)), ())
        for step in (("root", 0, g, 2), ("root", 0, g, 4), ("root", 0, read("x + y"), 3), ("root", 3, read("x"), 1), ("root", 3, read("x"), 0),
                     ("root", 3, read("x"), True), ("root", 0, g, "3"), ("root", 4, g, 3), ("root", 0, g), ("root", 0, g, 3, 3),
                     ("root", 0, None, 3), ("root", 0, (), 3), ("root", 2, g, 3)):
            self.wrong(told, leaf([step]))

    def test_nonzero(self):
        told = system(["x", "y"], ["a", "b + 1"])
        self.assertEqual(self.placed(told, ("nonzero", (), ())), ONE)
        self.assertEqual(self.placed(told, ("nonzero", ((0, 1), (1, 2)), ())), read("a*(b + 1)^2"))
        self.assertEqual(self.placed(told, ("nonzero", ((0, 2),), ((1, read("x")), (0, read("-y")), (0, read("3"))))), read("a^2 + 3*x"))
        self.assertEqual(self.placed(told, ("nonzero", (), ((0, ONE),)), ("nonzero", ((2, 2),), ((0, read("-2 - x")),))), ONE)
        for step in (("nonzero", ((2, 1),), ()), ("nonzero", (), ((2, ONE),)), ("nonzero", ()), ("nonzero", (), (), ()), ("nonzero", (), [])):
            self.wrong(told, leaf([step]))
        self.powers_are_asked(told, lambda powers: leaf([("nonzero", powers, ())]), ((0, 2),))
        for value in NO_POLYNOMIALS:
            self.wrong(told, leaf([("nonzero", (), ((0, value),))]))

    def test_divisor(self):
        told = system([], ["6*x*y - 6*x", "z"])
        self.assertEqual(self.placed(told, ("divisor", ((0, 1),), read("x"), read("y - 1"))), read("x"))
        self.assertEqual(self.placed(told, ("divisor", ((0, 2), (1, 1)), read("2*z*(1 - y)"), read("x^2*(y - 1)"))), read("2*z*(1 - y)"))
        self.assertEqual(self.placed(told, ("divisor", (), read("7"), read("1/3"))), read("7"))
        for step in (("divisor", ((0, 1),), read("x"), read("y + 1")), ("divisor", ((0, 1),), read("x"), ()), ("divisor", ((0, 1),), (), read("x")),
                     ("divisor", ((0, 2),), read("x"), read("y - 1")), ("divisor", (), read("x"), read("y - 1")), ("divisor", ((0, 1),), read("x")),
                     ("divisor", ((0, 1),), read("x"), read("y - 1"), ()), ("divisor", ((0, 1),), None, read("y - 1")),
                     ("divisor", ((0, 1),), read("x"), 1)):
            self.wrong(told, leaf([step]))
        self.powers_are_asked(told, lambda powers: leaf([("divisor", powers, read("x^2"), read("(y - 1)^2"))]), ((0, 2),))

    def test_places_are_as_they_are_at_that_moment(self):
        told = system(["x"], ["y"])
        self.right(told, leaf([("rate", 0), ("rate", 1), ("sum", ((2, ONE),))], ("case", (3, 0), (0,))))
        self.wrong(told, leaf([("rate", 1), ("rate", 0)]))
        self.wrong(told, leaf([("sum", ((1, ONE),))]))
        self.wrong(told, leaf([("nonzero", ((1, 1),), ())]))
        self.right(told, leaf([("nonzero", ((0, 1),), ()), ("nonzero", ((1, 1),), ())]))
        self.wrong(told, leaf([("nonzero", (), ()), ("sum", ((1, ONE),))]))
        self.wrong(told, leaf([], ("case", (1,), ())))
        self.wrong(told, leaf([("rate", 0)], ("case", (), (1,))))

    def test_steps_of_any_kind(self):
        told = system(["x"], ["y"])
        self.right(told, leaf([("sum", ())]))
        for value in [value for value in ANYTHING if value != ("sum", ())]:
            self.wrong(told, leaf([value]))
            self.wrong(told, leaf([("rate", 0), value]))
            if value != ():
                self.wrong(told, ((value, CASE),))
        self.wrong(told, (([], CASE),))


class EndsTest(TreeTest):
    def test_contradiction(self):
        told = system(["-3*x*y^2", "0", "5"], ["x", "y", "z"])
        for end in (("contradiction", 0, ((0, 1), (1, 2))), ("contradiction", 2, ())):
            self.assertEqual(self.right(told, leaf([], end)), ())
        for end in (("contradiction", 0, ((0, 1), (1, 1))), ("contradiction", 0, ((0, 1), (1, 2), (2, 1))), ("contradiction", 0, ()),
                    ("contradiction", 1, ()), ("contradiction", 3, ()), ("contradiction", True, ()), ("contradiction", 2), ("contradiction", 2, (), ()),
                    ("contradiction", 0, ((1, 2), (0, 1))), ("contradiction", 2, []), ("contradiction", None, ())):
            self.wrong(told, leaf([], end))

    def test_goal(self):
        told = system(["4*x^2*y - 4*x^2", "0", "x"], ["y - 1", "y"])
        f = read("-x")
        for end in (("goal", 0, 2, ((0, 1),)), ("goal", 2, 1, ())):
            self.assertEqual(self.right(told, leaf([], end), f), ())
            self.wrong(told, leaf([], end))
        self.right(told, leaf([], ("goal", 1, 1, ((0, 60), (1, 60)))), ())
        self.right(told, leaf([], ("goal", 1, 60, ())), ())
        for end in (("goal", 0, 1, ((0, 1),)), ("goal", 0, 2, ()), ("goal", 0, 2, ((0, 2),)), ("goal", 0, 2, ((1, 1),)), ("goal", 2, 0, ()),
                    ("goal", 2, True, ()), ("goal", 2, -1, ()), ("goal", 3, 1, ()), ("goal", 1, 1, ()), ("goal", 2, 1), ("goal", 2, 1, (), ()),
                    ("goal", 2, "1", ()), ("goal", 2, 1, None)):
            self.wrong(told, leaf([], end), f)
        self.right(told, leaf([("sum", ((2, read("1/7")),))], ("goal", 3, 1, ())), f)
        self.wrong(told, leaf([], ("goal", 2, 1, ())), ())

    def test_goal_1(self):
        told = system(["3"], ["x"])
        self.assertEqual(self.right(told, leaf([], ("goal", 0, 60, ())), ONE), ())
        self.wrong(told, leaf([], ("goal", 0, 61, ())), ONE)
        self.right(told, leaf([], CASE), ONE)

    def test_case(self):
        told = system(["x", "y", "x"], ["z", "w"])
        found = self.right(told, leaf([], ("case", (2, 0), (1, 0))))
        self.assertEqual(found, ((0, told, (polys("x", "x"), polys("w", "z"))),))
        self.right(told, leaf([], ("case", (0, 1, 2), ())))
        for end in (("case", (0, 0), ()), ("case", (), (1, 1)), ("case", (3,), ()), ("case", (), (2,)), ("case", (-1,), ()), ("case", (True,), ()),
                    ("case", (False, 0), ()), ("case", [0], ()), ("case", (), [0]), ("case", ()), ("case", (), (), ()), ("case", 0, ()),
                    ("case", (None,), ()), ("case", (), ("0",)), ("case",)):
            self.wrong(told, leaf([], end))

    def test_ends_of_any_kind(self):
        told = system(["x"], ["y"])
        for value in ANYTHING:
            self.wrong(told, leaf([], value))
            self.wrong(told, ((value,),))
            self.wrong(told, ((),))
            self.wrong(told, (value,))
            self.wrong(told, value)
        self.wrong(told, (((), CASE, ()),))
        self.wrong(told, ([(), CASE],))
        self.wrong(told, [((), CASE)])
        self.wrong(told, (((), list(CASE)),))

    def test_split(self):
        told = system(["x"], ["y"])
        h = read("x'")
        tree = (((("rate", 0),), ("split", h, 1, 2)), ((), ("case", (0, 1, 2), (0,))), ((), ("case", (0, 1), (0, 1))))
        found = self.right(told, tree)
        self.assertEqual(found[0], (1, (polys("x", "x'"), polys("y")), (polys("x", "x'", "x'"), polys("y"))))
        self.assertEqual(found[1], (2, (polys("x"), polys("y", "x'")), (polys("x", "x'"), polys("y", "x'"))))
        turned = (((), ("split", h, 2, 1)), ((), ("case", (0,), (1,))), ((), ("case", (1,), (0,))))
        self.assertEqual([row[2] for row in self.right(told, turned)], [(polys("x"), polys("x'")), (polys("x'"), polys("y"))])
        # What the steps of one child place is not there in the other one.
        self.wrong(told, (((), ("split", h, 1, 2)), ((("rate", 0),), CASE), ((), ("case", (1,), ()))))
        for end in (("split", h, 1, 1), ("split", h, 0, 1), ("split", h, 1, 3), ("split", h, True, 2), ("split", h, 1, None), ("split", h, 1),
                    ("split", h, 1, 2, 3), ("split", None, 1, 2), ("split", h, -1, 2), ("split", 0, 1, 2), ("split", h, 1, "2"), ("split",)):
            self.wrong(told, (((), end), ((), CASE), ((), CASE)))
        self.wrong(told, (((), ("split", h, 1, 2)), ((), CASE)))
        self.wrong(told, (((), ("split", h, 1, 0)), ((), CASE)))
        self.wrong(told, (((), ("split", h, 0, 1)), ((), CASE)))
        self.wrong(told, (((), ("split", h, 1, 1)), ((), CASE)))
        self.wrong(told, (((), CASE), ((), CASE)))
        self.wrong(told, (((), ("split", h, 1, 2)), ((), CASE), ((), CASE), ((), CASE)))
        for value in NO_POLYNOMIALS:
            self.wrong(told, (((), ("split", value, 1, 2)), ((), CASE), ((), CASE)))
        self.right(told, (((), ("split", (), 1, 2)), ((), CASE), ((), CASE)))

    def test_numbering(self):
        told = ((), ())
        a, b, c = polys("a", "b", "c")
        leaf_end = ((), CASE)
        right = [
            (((), ("split", a, 1, 2)), ((), ("split", b, 3, 4)), ((), ("split", c, 5, 6)), leaf_end, leaf_end, leaf_end, leaf_end),
            (((), ("split", a, 2, 1)), ((), ("split", b, 6, 3)), ((), ("split", c, 5, 4)), leaf_end, leaf_end, leaf_end, leaf_end),
            (((), ("split", a, 4, 1)), ((), ("split", b, 3, 2)), leaf_end, ((), ("split", c, 6, 5)), leaf_end, leaf_end, leaf_end),
        ]
        for tree in right:
            found = self.right(told, tree)
            self.assertEqual(len(found), 4)
            self.assertEqual([row[0] for row in found], sorted(row[0] for row in found))
        self.assertEqual(self.right(told, right[2])[1][1], ((a,), ()))
        self.assertEqual(self.right(told, right[2])[3][1], ((b, c), (a,)))
        # A node named twice, by one split or by two; a node named by none; a node named by a later one.
        self.wrong(told, (((), ("split", a, 1, 2)), ((), ("split", b, 2, 3)), leaf_end, leaf_end))
        self.wrong(told, (((), ("split", a, 1, 2)), ((), ("split", b, 3, 2)), leaf_end, leaf_end))
        self.wrong(told, (((), ("split", a, 1, 2)), ((), ("split", b, 3, 1)), leaf_end, leaf_end))
        self.wrong(told, (((), ("split", a, 1, 2)), ((), ("split", b, 4, 3)), ((), ("split", b, 4, 5)), leaf_end, leaf_end, leaf_end))
        self.wrong(told, (((), ("split", a, 1, 3)), leaf_end, ((), ("split", b, 4, 5)), leaf_end, leaf_end, leaf_end))
        self.wrong(told, (((), ("split", a, 1, 4)), leaf_end, leaf_end, ((), ("split", b, 2, 5)), leaf_end, leaf_end))
        self.wrong(told, (((), ("split", a, 1, 2)), ((), ("split", b, 1, 3)), leaf_end, leaf_end))

    def test_deep_givens(self):
        h = [read(f"a{k}") for k in range(200)]
        nodes = []
        for k in range(200):
            nodes.append(((), ("split", h[k], 2 * k + 1, 2 * k + 2)))
            nodes.append(((), ("case", tuple(range(k % 2)), ())) if k % 2 == 0 else ((), CASE))
        nodes.append(((), ("case", (), tuple(range(200)))))
        found = self.right(((), ()), tuple(nodes))
        self.assertEqual(found[-1], (400, ((), tuple(h)), ((), tuple(h))))
        self.assertEqual(found[10][1], ((h[10],), tuple(h[:10])))


class BoundsTest(TreeTest):
    def filling(self, place, work):
        """Steps of so much work in all: the inequation at the place has two pairs."""
        steps = []
        for k in range(22):
            if work >> k & 1:
                steps.append(("nonzero", ((place, k),) if k else (), ()))
        return steps

    def work_is(self, told, work, step=None, end=CASE, goal=None):
        """Checks that a step or an end has so much work: with the rest of the bound it is right, with 1 more not."""
        told = (told[0], told[1] + (read("u + 1"),))
        place = len(told[1]) - 1
        steps = [step] if step else []
        for more in (0, 1):
            tree = leaf(self.filling(place, 3000000 - work + more) + steps, end)
            self.assertEqual(judged(told, goal, tree) is None, more == 1)
            if step is not None:
                tree = leaf(steps + self.filling(place, 3000000 - work + more), end)
                self.assertEqual(judged(told, goal, tree) is None, more == 1)

    def test_work_of_steps(self):
        three = read("a + b + c")
        self.work_is((polys("x*y*z^2 + x*y' - x"), ()), 6, ("rate", 0))
        self.work_is((polys("x + y", "z"), ()), 8, ("sum", ((0, three), (1, read("a - b")), (0, ()))))
        told = ((times(power(three, 3), read("x + y")),), (three, read("z")))
        self.work_is(told, 54, ("cancel", 0, read("x + y"), ((0, 3),)))
        self.work_is((((),), (three,)), 0, ("cancel", 0, (), ((0, 60),)))
        self.work_is(((power(three, 5),), ()), 243, ("root", 0, three, 5))
        told = (polys("x - y"), (three, read("x - z")))
        self.work_is(told, 76, ("nonzero", ((0, 2), (1, 3)), ((0, read("x + 1")),)))
        self.work_is(told, 3, ("nonzero", ((0, 1),), ()))
        self.work_is(told, 1, ("nonzero", (), ()))
        told = ((), (power(three, 2), read("x")))
        self.work_is(told, 15, ("divisor", ((0, 1), (1, 9)), times(three, read("x^9")), three))

    def test_work_of_ends(self):
        three = read("a + b + c")
        told = ((times(power(three, 3), read("x^2")),), (three, read("x")))
        self.work_is(told, 27, None, ("contradiction", 0, ((0, 3), (1, 2))))
        self.work_is(told, 27, None, ("goal", 0, 2, ((0, 1), (1, 2))), three)
        self.work_is((((),), (three,)), 0, None, ("goal", 0, 60, ((0, 60),)), ())
        self.work_is(((), ()), 0)

    def test_work_of_several_nodes_adds_up(self):
        told = ((), (pairs(10),))
        big, small = ("nonzero", ((0, 6),), ()), ("nonzero", (), ())

        def tree(first, second, third):
            return ((first, ("split", read("x"), 1, 2)), (second, CASE), (third, CASE))

        self.assertIsNotNone(judged(told, None, tree((big,), (big,), (big,))))
        self.assertIsNotNone(judged(told, None, tree((), (big, big, big), ())))
        self.assertIsNone(judged(told, None, tree((big,), (big,), (big, small))))
        self.assertIsNone(judged(told, None, tree((small,), (big,), (big, big))))
        self.assertIsNone(judged(told, None, tree((big, big), (big,), (big,))))

    def test_wide_sum_rows(self):
        told = ((pairs(60, "c"),), ())
        row = ("sum", ((0, pairs(60)),) * 60)
        self.assertIsNotNone(judged(told, None, leaf([row] * 13)))
        self.assertIsNone(judged(told, None, leaf([row] * 14)))

    def test_great_powers_are_not_worked_out(self):
        told = ((pairs(60),), (pairs(60), read("x + y")))
        self.assertIsNone(judged(told, None, leaf([("nonzero", ((0, 60), (1, 60)), ())])))
        self.assertIsNone(judged(told, None, leaf([("root", 0, pairs(60), 60)])))
        self.assertIsNone(judged(told, pairs(60), leaf([], ("goal", 0, 60, ()))))
        self.assertIsNone(judged(told, None, leaf([], ("contradiction", 0, ((0, 4),)))))
        zero = ((read("x"), ()), (pairs(60), ()))
        self.assertIsNotNone(judged(zero, None, leaf([("nonzero", ((0, 60), (1, 1)), ())], ("case", (), (2,)))))
        self.assertIsNotNone(judged(zero, None, leaf([], ("contradiction", 1, ((0, 60), (1, 1))))))
        self.assertIsNone(judged(zero, None, leaf([], ("contradiction", 0, ((0, 60), (1, 1))))))
        self.assertIsNone(judged(zero, (), leaf([], ("goal", 0, 60, ((0, 60),)))))
        self.assertIsNotNone(judged(zero, (), leaf([], ("goal", 1, 60, ((0, 60),)))))
        nothing = (zero[0], (pairs(60), ()))
        self.assertIsNotNone(judged(nothing, pairs(60), leaf([], ("goal", 1, 60, ((0, 60), (1, 1))))))
        self.assertIsNone(judged(nothing, pairs(60), leaf([], ("goal", 0, 60, ((0, 60), (1, 1))))))
        self.assertIsNotNone(judged(zero, None, leaf([("cancel", 1, (), ((0, 60),))])))
        self.assertIsNone(judged(zero, None, leaf([("cancel", 0, (), ((0, 60),))])))

    def test_sum_rows_of_60_and_61_pairs(self):
        told = system(["x"], ["y"])
        for made in (lambda rows: ("sum", rows), lambda rows: ("nonzero", ((0, 1),), rows)):
            self.right(told, leaf([made(((0, ONE),) * 60)]))
            self.wrong(told, leaf([made(((0, ONE),) * 61)]))
            self.wrong(told, leaf([made(((0, ()),) * 61)]))

    def test_exponents_of_60_and_61(self):
        told = ((), polys("y", "z"))
        for e, check in ((60, self.right), (61, self.wrong)):
            high = ((((("y", 0), e),), (1, 1)),)
            check(told, leaf([("nonzero", ((0, 1), (1, e)), ())]))
            check(told, leaf([("divisor", ((0, e),), high, ONE)]))
            check(told, leaf([("sum", ()), ("cancel", 0, (), ((1, e),))]))
            check(((high,), told[1]), leaf([("cancel", 0, ONE, ((0, e),))]))
            check(((high,), told[1]), leaf([("root", 0, read("y"), e)]))
            check(((high,), told[1]), leaf([], ("contradiction", 0, ((0, e),))))
            check(((high,), told[1]), leaf([], ("goal", 0, 1, ((0, e),))), ONE)
            check(((high,), told[1]), leaf([], ("goal", 0, e, ())), read("y"))


def grown(rng, told, goal):
    """A tree that is right for a system and a goal, with all kinds of steps and ends, and with their conditions met."""
    letters = [("x", 0), ("y", 0), ("x", 1)]
    tree, waiting, limit = [], [0], rng.randint(1, 7)
    named = 1
    rows = {0: (list(told[0]), list(told[1]))}
    for k in range(50):
        if k not in rows:
            break
        E, N = rows[k]
        steps = []
        for _ in range(rng.randint(0, 3)):
            grow_step(rng, letters, steps, E, N)
        if named + 2 <= limit:
            end = grow_split(rng, letters, E, N, goal, named)
            rows[named] = (E + [end[1]], list(N))
            rows[named + 1] = (list(E), N + [end[1]])
            if rng.random() < 0.5:
                end = ("split", end[1], named + 1, named)
                rows[named], rows[named + 1] = rows[named + 1], rows[named]
            named += 2
        else:
            end = grow_end(rng, E, N, goal)
        tree.append((tuple(steps), end))
    return tuple(tree)


def row_product(N, powers):
    found = ONE
    for j, e in powers:
        found = times(found, power(N[j], e))
    return found


def grow_powers(rng, N):
    return tuple((j, rng.randint(1, 2)) for j in range(len(N)) if len(N[j]) < 4 and rng.random() < 0.4)


def grow_step(rng, letters, steps, E, N):
    """Adds a right step, or two, to the steps."""
    from ratesay.polynomials import plus
    from ratesay.rates import rate

    def add(step, side, p):
        steps.append(step)
        side.append(p)

    small = [i for i in range(len(E)) if len(E[i]) < 5]
    kind = rng.choice(["rate", "sum", "cancel", "root", "nonzero", "divisor"])
    powers = grow_powers(rng, N)
    if kind == "rate" and small:
        i = rng.choice(small)
        add(("rate", i), E, rate(E[i]))
    elif kind == "cancel" and small:
        i = rng.choice(small)
        m = times(row_product(N, powers), read("-2/3"))
        add(("sum", ((i, m),)), E, times(m, E[i]))
        add(("cancel", len(E) - 1, E[i], powers), E, E[i])
    elif kind == "root" and small:
        i = rng.choice(small)
        add(("sum", ((i, E[i]),)), E, times(E[i], E[i]))
        add(("root", len(E) - 1, E[i], 2), E, E[i])
    elif kind == "divisor":
        g = row_product(N, powers)
        both = tuple((j, 2 * e) for j, e in powers)
        add(("divisor", both, g, times(g, read("5"))), N, g)
    else:
        rows = tuple((rng.choice(small), random_polynomial(rng, letters, 1, 2)) for _ in range(rng.randint(0, 2) if small else 0))
        p = ()
        for i, m in rows:
            p = plus(p, times(m, E[i]))
        if kind == "nonzero":
            add(("nonzero", powers, rows), N, plus(row_product(N, powers), p))
        else:
            add(("sum", rows), E, p)


def grow_split(rng, letters, E, N, goal, named):
    powers = grow_powers(rng, N)
    choice = rng.randrange(3)
    h = random_polynomial(rng, letters, 2, 2)
    if choice == 0:
        h = row_product(N, powers)
    elif choice == 1:
        h = times(goal, row_product(N, powers))
    return ("split", h, named, named + 1)


def grow_end(rng, E, N, goal):
    """A contradiction or a goal where one is at hand, a case otherwise."""
    from ratesay.polynomials import alike

    for _ in range(12):
        powers = grow_powers(rng, N)
        p = row_product(N, powers)
        for i in range(len(E)):
            if alike(E[i], p):
                return ("contradiction", i, powers)
            if alike(E[i], times(p, goal)):
                return ("goal", i, 1, powers)
    places = [i for i in range(len(E)) if rng.random() < 0.6]
    rng.shuffle(places)
    return ("case", tuple(places), tuple(j for j in range(len(N)) if rng.random() < 0.6))


def mutated(rng, value):
    """The value with one part of it changed."""
    if isinstance(value, tuple) and value and rng.random() < 0.93:
        at = rng.randrange(len(value))
        choice = rng.random()
        if choice < 0.03:
            return value[:at] + value[at + 1:]
        if choice < 0.06:
            return value[:at] + (value[at],) + value[at:]
        if choice < 0.08:
            return list(value)
        return value[:at] + (mutated(rng, value[at]),) + value[at + 1:]
    if isinstance(value, int) and not isinstance(value, bool) and rng.random() < 0.8:
        return rng.choice([value + 1, value - 1, value + 2, bool(value), -value, 0, 1, 2])
    return rng.choice([None, True, False, 0, 1, 2, "x", "rate", "sum", (), ONE, ((0, 1),), ((0, ONE),), [], ("rate", 0)])


class RandomTest(TreeTest):
    def test_grown_trees_and_their_mutations(self):
        rng = rng_of(1)
        words = {}
        right = wrong = 0
        for _ in range(250):
            told = (tuple(random_polynomial(rng, [("x", 0), ("y", 0)], 2, 2) for _ in range(rng.randint(0, 2))),
                    tuple(random_polynomial(rng, [("x", 0), ("y", 0)], 1, 2) for _ in range(rng.randint(0, 2))))
            goal = rng.choice(polys("x", "y'", "x - y", "1"))
            tree = grown(rng, told, goal)
            self.right(told, tree, goal)
            for steps, end in tree:
                for step in (*steps, end):
                    words[step[0]] = words.get(step[0], 0) + 1
            for _ in range(8):
                other = mutated(rng, tree)
                found = judged(told, goal, other)
                self.assertEqual(found, reference.judge(told, goal, other), other)
                right += found is not None
                wrong += found is None
        self.assertEqual(len(words), 10)
        self.assertTrue(all(count > 10 for count in words.values()), words)
        self.assertGreater(right, 100)
        self.assertGreater(wrong, 1000)


if __name__ == "__main__":
    unittest.main()
