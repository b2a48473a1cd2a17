"""Questions of all kinds, their answers, and certificates that show them."""

from ratesay.errors import RatesayError
from ratesay.formulas import decide, is_decision
from ratesay.generic import is_same, same_equations
from ratesay.kept import is_kept_set, kept_set
from ratesay.models import is_model
from ratesay.observed import is_observed, observed
from ratesay.polynomials import UNIT
from ratesay.sets import containment, is_containment
from ratesay.starts import follows, is_following
from ratesay.timed import decide_zero, is_zero_paper
from ratesay.told import is_told_by, told_by

# How many parts a question has behind its word, and the first word of the certificates for the answer True.
SIZES = {"follows": 3, "solved": 2, "sentence": 1, "within": 2, "told": 3, "zero": 2, "kept": 2, "observed": 2,
         "same equations": 2}
TRUE_WORDS = {"follows": "yes", "solved": "no", "within": "empty", "told": "yes", "zero": "zero", "kept": "kept",
              "observed": "finite", "same equations": "same"}


def found_certificate(question):
    """A certificate for the answer to a question that is no sentence."""
    word, *parts = question
    if word == "follows":
        return follows(parts[0], parts[1], parts[2])
    if word == "solved":
        return follows(parts[0], UNIT, parts[1])
    if word == "within":
        return containment(parts[0], parts[1])
    if word == "told":
        return told_by(parts[0], parts[1], parts[2])
    if word == "zero":
        return decide_zero(parts[0], parts[1])
    if word == "kept":
        return kept_set(parts[0], parts[1])
    if word == "observed":
        return observed(parts[0], parts[1])
    return same_equations(parts[0], parts[1])


def certified(question):
    """The pair of the answer to a question and a certificate for it."""
    if question[0] == "sentence":
        return decide(question[1])
    found = found_certificate(question)
    return (found[0] == TRUE_WORDS[question[0]], found)


def answer_to(question):
    """The answer to a question."""
    return certified(question)[0]


def is_question(value):
    """Whether any value has the outer form of a question."""
    if type(value) is not tuple or not value or type(value[0]) is not str or value[0] not in SIZES:
        return False
    if len(value) != SIZES[value[0]] + 1:
        return False
    # What is asked of models takes models alone.
    if value[0] == "observed":
        return is_model(value[1])
    return value[0] != "same equations" or is_model(value[1]) and is_model(value[2])


def is_right(question, answer, certificate):
    """Whether the judge of a question takes any value for right."""
    word, *parts = question
    if word == "sentence":
        return is_decision(parts[0], answer, certificate)
    if word == "follows":
        return is_following(parts[0], parts[1], parts[2], certificate)
    if word == "solved":
        return is_following(parts[0], UNIT, parts[1], certificate)
    if word == "within":
        return is_containment(parts[0], parts[1], certificate)
    if word == "told":
        return is_told_by(parts[0], parts[1], parts[2], certificate)
    if word == "zero":
        return is_zero_paper(parts[0], parts[1], certificate)
    if word == "kept":
        return is_kept_set(parts[0], parts[1], certificate)
    if word == "observed":
        return is_observed(parts[0], parts[1], certificate) is not None
    return is_same(parts[0], parts[1], certificate) is not None


def is_certified(question, answer, certificate):
    """Whether any value is a certificate for an answer to a question."""
    if answer is not True and answer is not False or not is_question(question):
        return False
    try:
        if not is_right(question, answer, certificate):
            return False
    except RatesayError:
        return False
    return question[0] == "sentence" or (certificate[0] == TRUE_WORDS[question[0]]) == answer
