"""Point 1: the errors, their classes and fields, and conventions."""

import inspect
import unittest

from ratesay import errors, polynomials, rates, texts
from tests.helpers import polys

FIELDS = {
    "BadPolynomial": (),
    "BadText": ("at",),
    "BadDivisor": (),
    "BadName": ("name",),
    "BadNames": (),
    "BadNumber": ("number",),
    "BadLetter": ("letter",),
    "BadFraction": (),
    "BadRanking": (),
    "NoLeader": (),
    "BadEquations": (),
    "BadSteps": (),
    "BadSystem": (),
    "BadCase": (),
    "BadPlanted": (),
    "NotOne": ("kind", "place"),
    "BadTower": (),
    "NotSquareFree": ("place",),
    "BadStart": (),
    "BadRates": (),
    "BadCondition": (),
    "BadUnion": (),
    "BadRows": (),
    "BadFormula": (),
    "BadPaper": (),
    "BadOutputs": (),
    "BadExplicit": (),
    "BadPairs": (),
    "Clash": ("name",),
    "NoFunction": ("what",),
    "BadMap": ("place",),
    "BadMix": ("place",),
    "NotBound": (),
    "BoundName": ("name",),
    "TooMany": (),
    "TooGreat": ("what",),
    "NameTaken": ("name",),
    "UnknownName": ("name",),
    "NothingToUndo": (),
    "NothingToRedo": (),
}


class ErrorsTest(unittest.TestCase):
    def test_all_errors_are_there_and_no_others(self):
        there = {name for name, part in vars(errors).items() if inspect.isclass(part)}
        self.assertEqual(there, set(FIELDS) | {"RatesayError"})

    def test_ratesay_error_is_a_value_error(self):
        self.assertEqual(errors.RatesayError.__bases__, (ValueError,))

    def test_all_others_stand_straight_under_it(self):
        for name in FIELDS:
            self.assertEqual(getattr(errors, name).__bases__, (errors.RatesayError,), name)

    def test_fields_by_name_and_in_order(self):
        for name, fields in FIELDS.items():
            kind = getattr(errors, name)
            worths = [("worth", k) for k in range(len(fields))]
            made = kind(*worths)
            self.assertEqual([getattr(made, field) for field in fields], worths, name)
            self.assertEqual(vars(made), dict(zip(fields, worths)), name)
            named = kind(**dict(zip(fields, worths)))
            self.assertEqual(vars(named), vars(made), name)
            self.assertIsInstance(str(made), str)

    def test_fields_of_any_kind(self):
        for worth in (None, True, [1], ("x", 0), 10 ** 5000):
            self.assertIs(errors.BadNumber(worth).number, worth)
            self.assertIs(errors.BadLetter(worth).letter, worth)

    def test_number_of_arguments(self):
        for name, fields in FIELDS.items():
            with self.assertRaises(TypeError):
                getattr(errors, name)(*range(len(fields) + 1))


class ConventionsTest(unittest.TestCase):
    def test_each_function_stands_in_its_file(self):
        listed = {
            polynomials: """is_letter is_monomial is_polynomial number letter as_number letters_of names_of plus less
                times scaled power put alike degree coefficients joined partial quotient pseudo primitive
                common_divisor square_free square_free_by""",
            texts: "read text_of",
            rates: "rate rates",
        }
        for module, names in listed.items():
            for name in names.split():
                self.assertEqual(getattr(module, name).__module__, module.__name__, name)

    def test_equal_calls_return_equal_results_and_change_nothing(self):
        p, q = polys("x^2 - 1/2*y + 3", "x*y' - 7")
        copies = (tuple(p), tuple(q))
        for _ in range(2):
            self.assertEqual(polynomials.times(p, q), polynomials.times(p, q))
            self.assertEqual(polynomials.common_divisor(p, q), polynomials.common_divisor(p, q))
            self.assertEqual(rates.rates(p, 3), rates.rates(p, 3))
            rows = ((("x", 0), q), (("y", 0), p))
            self.assertEqual(polynomials.put(p, rows), polynomials.put(p, rows))
        self.assertEqual((p, q), copies)

    def test_error_of_an_earlier_argument_goes_first(self):
        with self.assertRaises(errors.BadPolynomial):
            rates.rates(None, None)
        with self.assertRaises(errors.BadNumber):
            rates.rates((), None)


if __name__ == "__main__":
    unittest.main()
