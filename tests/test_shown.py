"""Points 91 to 93 as the heading ratesay/shown.py names them: questions, answers, certificates."""

import unittest

from ratesay.conditions import single
from ratesay.polynomials import UNIT
from ratesay.shown import answer_to, certified, is_certified
from ratesay.texts import read
from tests.helpers import ANYTHING, polys, rng_of, system
from tests.test_generic import GIVEN, STEADY, TURNED
from tests.test_models import GROWTH, told
from tests.test_timed import CIRCLE, SINE, explicit, start

RANKING = (("x", "y"),)
FLOW = system(("x' - y", "y'"))
EMPTY = system(("x' - 1", "x^2 - x"))
DOUBLED = (told(x="2*x"), ("p",), (), told(y="x"), ())
ZERO = ("zero", read("x"))
SENTENCE = ("all", "u", ("some", "x", ("and", ("zero", read("x' - u*x")), ("not", ZERO))))
QUESTIONS = [
    (("follows", FLOW, read("x''"), RANKING), True),
    (("follows", FLOW, read("x'"), RANKING), False),
    (("follows", EMPTY, UNIT, (("x",),)), True),
    (("follows", ((), ()), (), ()), True),
    (("solved", FLOW, RANKING), True),
    (("solved", EMPTY, (("x",),)), False),
    (("solved", ((), ()), ()), True),
    (("solved", system(("x'^2 - 4*x",), ("x",)), (("x",),)), True),
    (("sentence", SENTENCE), True),
    (("sentence", ("all", "x", ZERO)), False),
    (("sentence", ("zero", ())), True),
    (("sentence", ("zero", UNIT)), False),
    (("within", single(read("x")), single(read("x*y"))), True),
    (("within", single(read("x*y")), single(read("x"))), False),
    (("within", (), ()), True),
    (("within", (((), ()),), ()), False),
    (("told", FLOW, "y", ("x",)), True),
    (("told", FLOW, "x", ("y",)), False),
    (("zero", SINE, read("x^2 + y^2 - 1")), True),
    (("zero", SINE, read("x^2 + y - 1")), False),
    (("zero", (explicit(x="1", z="2*x"), start(0, 0)), read("z - x^2")), True),
    (("kept", CIRCLE, polys("x^2 + y^2 - 1")), True),
    (("kept", CIRCLE, polys("x^2", "y^2")), True),
    (("kept", CIRCLE, polys("x", "y - 1")), False),
    (("kept", explicit(x="1"), polys("x^2 - 2")), False),
    (("observed", GROWTH, "p"), True),
    (("observed", (told(x="0"), ("p",), (), told(y="x"), ()), "p"), False),
    (("observed", GIVEN, "q"), True),
    (("same equations", STEADY, TURNED), True),
    (("same equations", GROWTH, DOUBLED), False),
]
BAD_QUESTIONS = [
    *ANYTHING, ("follows",), ("follows", FLOW, read("x''")), ("follows", FLOW, read("x''"), RANKING, 0), ("follows", None, read("x''"), RANKING),
    ("follows", FLOW, None, RANKING), ("follows", FLOW, read("x''"), None), ("follows", FLOW, read("x''"), (("x",),)), ("solved", FLOW),
    ("solved", None, RANKING), ("solved", FLOW, 1), ("solved", FLOW, RANKING, 0), ("sentence",), ("sentence", None), ("sentence", ZERO), ("sentence", SENTENCE, 0),
    ("within", (), 1), ("within", None, ()), ("within", ()), ("told", FLOW, "y"), ("told", FLOW, "y", "x"), ("told", FLOW, "y", ("y",)), ("told", FLOW, 1, ("x",)),
    ("told", 5, "y", ("x",)), ("zero", SINE), ("zero", CIRCLE, read("x")), ("zero", SINE, read("z")), ("zero", None, None), ("kept", CIRCLE, ()),
    ("kept", CIRCLE, polys("1")), ("kept", None, polys("x")), ("observed", GROWTH), ("observed", None, "p"), ("observed", GROWTH, "y"), ("observed", GROWTH, None),
    ("observed", GROWTH[:4], "p"), ("same equations", STEADY), ("same equations", STEADY, None), ("same equations", None, STEADY), ("same equations", STEADY, GIVEN),
    ("Follows", FLOW, read("x''"), RANKING), (["follows"], FLOW, read("x''"), RANKING), ["follows", FLOW, read("x''"), RANKING], ("same", STEADY, STEADY),
]


def places(value, path=()):
    """The paths to all parts of a value."""
    found = [path]
    if isinstance(value, tuple):
        for k, part in enumerate(value):
            found.extend(places(part, (*path, k)))
    return found


def part_at(value, path):
    """The part of a value at a path."""
    for k in path:
        value = value[k]
    return value


def with_part(value, path, part):
    """A value with another part at a path."""
    if not path:
        return part
    return (*value[:path[0]], with_part(value[path[0]], path[1:], part), *value[path[0] + 1:])


def bent(rng, value):
    """A value bent at one place."""
    path = rng.choice(places(value))
    part = part_at(value, path)
    if isinstance(part, tuple) and part and rng.random() < 0.5:
        k = rng.randrange(len(part))
        kind = rng.randrange(3)
        other = part[:k] + part[k + 1:] if kind == 0 else part[:k] + (part[k],) + part[k:] if kind == 1 else part[::-1]
    elif type(part) is int:
        other = part + rng.choice([-1, 1])
    else:
        other = rng.choice([*ANYTHING, part_at(value, rng.choice(places(value))), "yes", "no", "zero", "kept", "finite", "same"])
    return with_part(value, path, other)


class ShownTest(unittest.TestCase):
    def test_answers_and_certificates(self):
        for question, right in QUESTIONS:
            self.assertIs(answer_to(question), right, question)
            answer, certificate = certified(question)
            self.assertIs(answer, right)
            self.assertIs(is_certified(question, right, certificate), True, question)
            self.assertIs(is_certified(question, not right, certificate), False, question)

    def test_no_other_answers(self):
        for question, right in QUESTIONS:
            certificate = certified(question)[1]
            for answer in (1 if right else 0, None, "yes", "True", (), [], UNIT, (True,), 2):
                self.assertIs(is_certified(question, answer, certificate), False)

    def test_certificates_of_other_questions(self):
        found = [certified(question) for question, _ in QUESTIONS]
        for (question, right) in QUESTIONS:
            for other, (_, certificate) in zip(QUESTIONS, found):
                self.assertIs(is_certified(question, not right, certificate), False, (question, certificate))
                self.assertIs(is_certified(question, not right, list(other)), False)

    def test_bent_certificates(self):
        rng = rng_of(17)
        for question, right in QUESTIONS:
            certificate = certified(question)[1]
            for _ in range(40):
                one = bent(rng, certificate)
                self.assertIs(is_certified(question, not right, one), False, (question, one))
                self.assertIn(is_certified(question, right, one), (True, False))

    def test_values_of_all_kinds(self):
        for question, right in QUESTIONS:
            for value in [*ANYTHING, {}, 1.5, ("yes",), ("no",), ("yes", None), ("no", None), ("empty", None), ("held", 0), ("held", 0, None), ("order", 0),
                          ("zero", None, None, None), ("kept", None, None, None), ("left", None, None, None, None, None), ("finite", None, None),
                          ("free", None), ("same", None, None), ("unlike", None)]:
                self.assertIs(is_certified(question, not right, value), False, (question, value))
                self.assertIn(is_certified(question, right, value), (True, False))

    def test_questions_of_other_forms(self):
        certificates = [certified(question)[1] for question, _ in QUESTIONS[::4]]
        for question in BAD_QUESTIONS:
            for certificate in [None, (), ("yes", ()), *certificates]:
                for answer in (True, False):
                    self.assertIs(is_certified(question, answer, certificate), False, question)


if __name__ == "__main__":
    unittest.main()
