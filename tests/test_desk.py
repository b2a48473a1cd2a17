"""Point 96 as the heading ratesay/desk.py names it: the lines of the desk."""

import unittest

from ratesay.desk import Desk
from ratesay.session import Session
from tests.helpers import polys


def desk(*lines):
    """A desk that has answered lines by ok."""
    found = Desk(Session())
    for line in lines:
        if found.answer(line) != "ok":
            raise AssertionError(line)
    return found


CIRCLE = ("name e", "equation e x' - y", "equation e y' + x")


class DeskTest(unittest.TestCase):
    def lines(self, found, *rows):
        for line, answer in rows:
            self.assertEqual(found.answer(line), answer, line)

    def test_example(self):
        self.lines(desk(*CIRCLE), ("follows e x'' + x", "yes"), ("follows e x''", "no"), ("follows e x", "no"))

    def test_changes(self):
        session = Session()
        found = Desk(session)
        self.lines(found, ("name e", "ok"), ("equation e x' - y", "ok"), ("inequation e 1/2*x^2", "ok"), ("name f", "ok"), ("strike e 0", "ok"),
                   ("undo", "ok"), ("redo", "ok"), ("undo", "ok"), ("forget f", "ok"))
        self.assertEqual(session.entries(), (("e", (polys("x' - y"), polys("1/2*x^2"))),))
        # What others change in the session is seen, too.
        session.name("g")
        self.lines(found, ("name g", "error nametaken"), ("show g", ""), ("undo", "ok"), ("show g", "error unknownname"))

    def test_errors_of_changes(self):
        found = desk("name e", "equation e x")
        self.lines(found, ("name e", "error nametaken"), ("name E", "error badname"), ("name x'", "error badname"), ("name abcdefghi", "error badname"),
                   ("name 1", "error badname"), ("equation q x", "error unknownname"), ("equation q x +", "error unknownname"),
                   ("equation e x +", "error badtext"), ("inequation e 2x", "error badtext"), ("inequation q x", "error unknownname"),
                   ("equation Q 2x", "error unknownname"), ("equation e (x+1)^12*(x+1)^12", "error toogreat"), ("strike e 1", "error badnumber"),
                   ("strike e 15", "error badnumber"), ("strike q 0", "error unknownname"), ("forget q", "error unknownname"),
                   ("redo", "error nothingtoredo"), ("undo", "ok"), ("undo", "ok"), ("undo", "error nothingtoundo"), ("show e", "error unknownname"))

    def test_eight_of_a_kind(self):
        found = desk("name e", *[f"equation e x - {k}" for k in range(8)], *[f"inequation e y - {k}" for k in range(8)])
        self.lines(found, ("equation e x", "error toogreat"), ("inequation e x", "error toogreat"), ("equation e 2x", "error badtext"),
                   ("equation q x", "error unknownname"), ("strike e 15", "ok"), ("inequation e y", "ok"), ("strike e 16", "what"))

    def test_show(self):
        found = desk("name e", "name f", "equation f x'^2 - 4*x", "equation f y", "inequation f -x", "inequation f 2/4", "equation f 0")
        self.lines(found, ("show e", ""), ("show f", "-4*x + x'^2 = 0; y = 0; 0 = 0; -x # 0; 1/2 # 0"), ("show q", "error unknownname"))
        self.lines(desk("name e", "inequation e x[3]"), ("show e", "x[3] # 0"))

    def test_solved(self):
        found = desk("name e")
        self.lines(found, ("solved e", "yes"), ("equation e x' - 1", "ok"), ("solved e", "yes"), ("equation e x^2 - x", "ok"), ("solved e", "no"),
                   ("strike e 0", "ok"), ("solved e", "yes"), ("inequation e x", "ok"), ("solved e", "yes"), ("inequation e x - 1", "ok"),
                   ("solved e", "no"), ("solved q", "error unknownname"))
        self.lines(desk("name e", "equation e 1"), ("solved e", "no"))
        self.lines(desk("name e", "inequation e 0"), ("solved e", "no"))
        self.lines(desk("name e", "inequation e 5"), ("solved e", "yes"))

    def test_follows(self):
        found = desk("name e", "equation e x'^2 - 4*x", "inequation e x")
        self.lines(found, ("follows e x'' - 2", "yes"), ("follows e x''", "no"), ("follows e y", "no"), ("follows e y - y", "yes"), ("follows e 0", "yes"),
                   ("follows e 1", "no"), ("follows e   x'' - 2  ", "yes"), ("follows e  ", "error badtext"), ("follows e x''' ", "yes"),
                   ("follows q x", "error unknownname"), ("follows q x+", "error unknownname"), ("follows e x+", "error badtext"),
                   ("follows e (x+y)^12*(x+y)^12", "error toogreat"))
        self.lines(desk("name e"), ("follows e x", "no"), ("follows e 0", "yes"), ("follows e 3", "no"))

    def test_told(self):
        found = desk("name e", "equation e x' - y", "name f", "equation f x*y - z")
        self.lines(found, ("told e y x", "yes"), ("told e x y", "no"), ("told e x y,z", "no"), ("told e z x,y", "no"), ("told f z x,y", "yes"),
                   ("told f z y,x,u", "yes"), ("told f x z,y", "no"), ("told q x y", "error unknownname"), ("told q X ,", "error unknownname"),
                   ("told e X y", "error badname"), ("told e x x", "error badname"), ("told e x y,x", "error badname"), ("told e X ,", "error badname"),
                   ("told e x ,", "error badnames"), ("told e x y,", "error badnames"), ("told e x ,y", "error badnames"),
                   ("told e x y,,z", "error badnames"), ("told e x y,y", "error badnames"), ("told e x y,Z", "error badnames"),
                   ("told e x x,x", "error badnames"), ("told e x y;z", "error badnames"))

    def test_zero(self):
        found = desk(*CIRCLE)
        self.lines(found, ("zero e x", "yes"), ("zero e x^2 + y^2", "yes"), ("zero e y + 1", "no"), ("zero e 0", "yes"), ("zero e 1", "no"),
                   ("zero e z", "error badpolynomial"), ("zero e x'", "error badpolynomial"), ("zero e x + z'", "error badpolynomial"),
                   ("zero e x +", "error badtext"), ("zero q x +", "error unknownname"), ("zero q x", "error unknownname"))
        self.lines(desk("name e", "equation e x' - 1", "equation e z' - 2*x"), ("zero e z - x^2", "yes"), ("zero e z - x", "no"))
        self.lines(desk("name e", "equation e x' - x^2 - y", "equation e -x + y'"), ("zero e x", "yes"))
        self.lines(desk("name e", "equation e x'"), ("zero e x", "yes"), ("zero e x - 1/9", "no"))

    def test_zero_of_other_systems(self):
        for lines in ((), ("equation e x",), ("equation e x' - y",), ("equation e 2*x' - x",), ("equation e -x' + x",), ("equation e x'^2 - x",),
                      ("equation e x'' - x",), ("equation e x' - x'*x",), ("equation e x' - x", "equation e x' - x"), ("equation e x' - x", "inequation e x"),
                      ("equation e x' - x", "equation e y"), ("equation e x' - y'", "equation e y'"), ("equation e x' - y[2]",),
                      ("equation e x' - x", "equation e 0"), ("inequation e x",), ("equation e y*x' - x", "equation e y'")):
            found = desk("name e", *lines)
            self.lines(found, ("zero e x", "error badexplicit"), ("zero e w'", "error badexplicit"), ("zero e x +", "error badtext"))

    def test_lines_of_another_form(self):
        found = desk("name e", "equation e x")
        before = found.answer("show e")
        for line in ("", " ", "what", "Name e", "name", "name ", "name  e", " name e", "name e ", "name e f", "nam e", "names e", "equation", "equation ",
                     "equation e", "equation e ", "equation  e x", "equation  x", " equation e x", "inequation e", "inequation e ", "strike", "strike e",
                     "strike e ", "strike e  0", "strike e 0 ", "strike e 0 1", "strike e x", "strike e 00", "strike e 01", "strike e 16", "strike e -1",
                     "strike e +1", "strike e 1.0", "strike e 100", "strike q 16", "strike  0", "forget", "forget ", "forget e ", "forget e e", "undo ", "undo e",
                     " undo", "undo 1", "redo ", "redo e", "show", "show ", "show e ", "show e f", "solved", "solved e ", "solved e x", "follows", "follows e",
                     "follows e ", "follows  e x", "told", "told e", "told e x", "told e x ", "told e x y z", "told e x y ", "told e  x y", "told e x  y",
                     "told e x y, z", "zero", "zero e", "zero e ", "zero  e x", "undoredo", "SHOW e", "name\te", "solved  e", "follows,e,x"):
            self.assertEqual(found.answer(line), "what", line)
        self.assertEqual(found.answer("show e"), before)
        self.assertEqual(found.answer("undo"), "ok")
        self.assertEqual(found.answer("show e"), "")

    def test_counts(self):
        for count in range(16):
            found = desk("name e", *[f"equation e x - {k}" for k in range(8)], *[f"inequation e y - {k}" for k in range(8)])
            self.assertEqual(found.answer(f"strike e {count}"), "ok")
            kept = [f"x - {k}" for k in range(8)] + [f"y - {k}" for k in range(8)]
            del kept[count]
            self.assertEqual(found.session.system("e"), (polys(*[t for t in kept if t[0] == "x"]), polys(*[t for t in kept if t[0] == "y"])))

    def test_too_many(self):
        # No answer is promised here, but a line has one.
        found = desk("name e", "equation e x^12 - y^11*x + z^9 - 3", "equation e y'^7*z - x*y'^5 + z'^3*x^2 - 1", "equation e z'^5*x' - y^4 - x")
        self.assertIn(found.answer("zero e x"), ("error badexplicit",))

    def test_two_desks(self):
        session = Session()
        first, second = Desk(session), Desk(session)
        self.assertEqual(first.answer("name e"), "ok")
        self.assertEqual(second.answer("name e"), "error nametaken")
        self.assertEqual(second.answer("undo"), "ok")
        self.assertEqual(len(session), 0)
        self.assertIn("answer", vars(Desk))


if __name__ == "__main__":
    unittest.main()
