"""Points 94 and 95 as the heading ratesay/session.py names them: sessions."""

import unittest

from ratesay.errors import BadName, BadNumber, BadPolynomial, NameTaken, NothingToRedo, NothingToUndo, TooGreat, UnknownName
from ratesay.polynomials import UNIT
from ratesay.session import Session
from ratesay.texts import read
from tests.helpers import ANYTHING, NO_POLYNOMIALS, polys, rng_of

NO_NAMES = [v for v in ANYTHING if v != "x" and v != "rate"] + ["X", "x'", "abcdefghi", "1x", "x y", ("x",), {}, {"x"}]


def filled():
    """A session with two entries."""
    session = Session()
    session.name("f")
    session.name("e")
    session.equation("e", read("x' - y"))
    session.equation("e", read("y"))
    session.inequation("e", read("x"))
    return session


ENTRIES = (("e", (polys("x' - y", "y"), polys("x"))), ("f", ((), ())))


class SessionTest(unittest.TestCase):
    def raises(self, session, error, deed, *arguments, **fields):
        """An error changes nothing, and can neither be undone nor hinders redoing."""
        before = session.entries()
        with self.assertRaises(error) as caught:
            getattr(session, deed)(*arguments)
        for name, worth in fields.items():
            self.assertEqual(getattr(caught.exception, name), worth)
        self.assertEqual(session.entries(), before)

    def test_deeds(self):
        session = filled()
        self.assertEqual(session.entries(), ENTRIES)
        self.assertEqual(session.system("e"), ENTRIES[0][1])
        self.assertEqual(len(session), 2)
        for deed, arguments in (("name", ("g",)), ("equation", ("f", UNIT)), ("inequation", ("f", ())), ("strike", ("e", 0)), ("forget", ("e",))):
            self.assertIsNone(getattr(session, deed)(*arguments))
        self.assertEqual(session.entries(), (("f", (polys("1"), polys("0"))), ("g", ((), ()))))
        self.assertIsNone(session.undo())
        self.assertIsNone(session.redo())

    def test_strike(self):
        for count, system in ((0, (polys("y"), polys("x"))), (1, (polys("x' - y"), polys("x"))), (2, (polys("x' - y", "y"), ()))):
            session = filled()
            session.strike("e", count)
            self.assertEqual(session.system("e"), system)
        session = filled()
        session.inequation("e", read("y + 1"))
        session.strike("e", 2)
        self.assertEqual(session.system("e"), (polys("x' - y", "y"), polys("y + 1")))
        session.equation("e", read("y"))
        self.assertEqual(session.system("e"), (polys("x' - y", "y", "y"), polys("y + 1")))

    def test_errors(self):
        session = filled()
        for name in NO_NAMES:
            self.raises(session, BadName, "name", name, name=name)
            self.raises(session, UnknownName, "equation", name, None, name=name)
            self.raises(session, UnknownName, "inequation", name, None, name=name)
            self.raises(session, UnknownName, "strike", name, None, name=name)
            self.raises(session, UnknownName, "forget", name, name=name)
            self.raises(session, UnknownName, "system", name, name=name)
        self.raises(session, UnknownName, "forget", "x", name="x")
        self.raises(session, NameTaken, "name", "e", name="e")
        for p in NO_POLYNOMIALS:
            self.raises(session, BadPolynomial, "equation", "e", p)
            self.raises(session, BadPolynomial, "inequation", "e", p)
        for count in (3, -1, True, None, "0", (0,), 100):
            self.raises(session, BadNumber, "strike", "e", count, number=count)
        self.raises(session, BadNumber, "strike", "f", 0, number=0)

    def test_eight_of_a_kind(self):
        session = filled()
        for deed, count in (("equation", 2), ("inequation", 1)):
            for k in range(count, 8):
                getattr(session, deed)("e", read(f"x + {k}"))
            self.raises(session, BadPolynomial, deed, "e", None)
            self.raises(session, TooGreat, deed, "e", UNIT, what="system")
        self.assertEqual([len(side) for side in session.system("e")], [8, 8])
        session.strike("e", 15)
        self.raises(session, TooGreat, "equation", "e", UNIT, what="system")
        session.inequation("e", UNIT)
        self.raises(session, TooGreat, "inequation", "e", UNIT, what="system")
        self.raises(session, BadNumber, "strike", "e", 16, number=16)

    def test_undo_and_redo(self):
        empty = Session()
        self.raises(empty, NothingToUndo, "undo")
        self.raises(empty, NothingToRedo, "redo")
        for deed, arguments in (("name", ("g",)), ("equation", ("f", UNIT)), ("inequation", ("e", UNIT)), ("strike", ("e", 1)), ("forget", ("e",))):
            session = filled()
            getattr(session, deed)(*arguments)
            after = session.entries()
            self.assertNotEqual(after, ENTRIES)
            session.undo()
            self.assertEqual(session.entries(), ENTRIES)
            session.redo()
            self.assertEqual(session.entries(), after)
            self.raises(session, NothingToRedo, "redo")
            session.undo()
            session.undo()
            session.redo()
            self.assertEqual(session.entries(), ENTRIES)
            session.redo()
            self.assertEqual(session.entries(), after)

    def test_a_new_change_leaves_nothing_to_redo(self):
        session = filled()
        session.undo()
        self.raises(session, UnknownName, "equation", "z", UNIT, name="z")
        self.raises(session, NameTaken, "name", "e", name="e")
        # What is refused is no change.
        session.redo()
        self.assertEqual(session.entries(), ENTRIES)
        session.undo()
        session.name("g")
        self.raises(session, NothingToRedo, "redo")
        session.undo()
        session.undo()
        self.assertEqual(session.entries(), (("e", (polys("x' - y"), ())), ("f", ((), ()))))

    def test_sixty_changes(self):
        rng = rng_of(16)
        session, seen = Session(), [()]
        while len(seen) <= 60:
            deed = rng.choice(["name", "equation", "equation", "inequation", "strike", "forget"])
            name = rng.choice("abcd")
            arguments = {"name": (), "forget": (), "strike": (rng.randint(0, 3),)}.get(deed, (read(f"x - {rng.randint(1, 9)}"),))
            try:
                getattr(session, deed)(name, *arguments)
            except ValueError:
                self.assertEqual(session.entries(), seen[-1])
                continue
            seen.append(session.entries())
        for entries in seen[-2::-1]:
            session.undo()
            self.assertEqual(session.entries(), entries)
        self.raises(session, NothingToUndo, "undo")
        for entries in seen[1:]:
            session.redo()
            self.assertEqual(session.entries(), entries)
        self.raises(session, NothingToRedo, "redo")

    def test_equal_sessions(self):
        first, second = filled(), filled()
        self.assertIs(first == second, True)
        self.assertIs(first != second, False)
        second.undo()
        self.assertIs(first == second, False)
        self.assertIs(first != second, True)
        second.inequation("e", read("x"))
        # What can be undone does not count.
        second.name("g")
        second.forget("g")
        self.assertIs(first == second, True)
        other = Session()
        other.name("e")
        for p in polys("x' - y", "y"):
            other.equation("e", p)
        other.inequation("e", read("x"))
        other.name("f")
        self.assertIs(first == other, True)
        self.assertIs(Session() == Session(), True)
        for value in [*ANYTHING, {}, first.entries(), object()]:
            self.assertIs(first == value, False)
            self.assertIs(first != value, True)
            self.assertIs(Session() == value, False)
        with self.assertRaises(TypeError):
            hash(first)

    def test_two_sessions_beside_one_another(self):
        first, second = filled(), Session()
        self.assertEqual(len(second), 0)
        second.name("e")
        first.forget("f")
        self.assertEqual(second.entries(), (("e", ((), ())),))
        self.assertEqual(len(first), 1)
        second.undo()
        self.raises(second, NothingToUndo, "undo")
        first.undo()
        self.assertEqual(first.entries(), ENTRIES)

    def test_methods_stand_in_the_class(self):
        for name in ("name", "equation", "inequation", "strike", "forget", "entries", "system", "undo", "redo", "__eq__", "__ne__", "__len__"):
            self.assertIn(name, vars(Session))


if __name__ == "__main__":
    unittest.main()
