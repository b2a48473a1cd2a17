"""The form of the package's files."""

import ast
import unittest

from tests.form_rules import faults, tables
from tests.table_rules import faults_of_tables

READ = """
WORDS = {"a": (1, 2), "b": ()}
ROWS = [(1, 2), (3, 4)]
PAIRS = (("a", 1), ())
NONE = ()


def told(word):
    if word not in WORDS or ROWS == [] or len(ROWS) > 5:
        return dict(WORDS), list(ROWS), PAIRS, NONE
    found = [row for row in ROWS] + [k for k, _ in WORDS.items()] + ROWS[1:]
    for row in ROWS:
        found.append(row)
    return found, WORDS[word], WORDS.get(word, NONE), sorted(WORDS), ROWS.index(word)
"""
HOLDING = (
    "ONE = ({(): 0}, 1, 1)",
    "ONE = (1, [2])",
    "ONE = [[1], 2]",
    "ONE = {'a': [1]}",
    "ONE = {'a': (1, (2, {}))}",
    "ONE = (1, ((2, [3]),))",
    "ONE = (1, [2] * 3)",
    "ONE = (1,) + ([2],)",
    "ROWS = [1]\nONE = (ROWS, 2)",
    "from ratesay.other import THERE\nONE = (THERE, 2)",
)
HANDING = (
    "return ROWS",
    "found = ROWS",
    "found = [ROWS, 1]",
    "found = (1, ROWS)",
    "return own(ROWS)",
    "return own(rows=ROWS)",
    "a, b = ROWS",
    "return ''.join(ROWS)",
    "found.extend(ROWS)",
    "found += ROWS",
    "found = found + ROWS",
    "found = ROWS or found",
    "found = ROWS if found else 1",
    "return [*ROWS]",
    "ROWS.append(1)",
    "ROWS[0] = 1",
    "del ROWS[0]",
    "self.rows = ROWS",
    "return lambda: ROWS",
)


def faults_of(text):
    """The faults of a text with ratesay.other, which has a list THERE, beside it."""
    return faults_of_tables("text.py", ast.parse(text), {"ratesay.other": {"THERE"}})


class FormTest(unittest.TestCase):
    def test_rules_of_the_language_subset(self):
        self.assertEqual(faults(), [])

    def test_lists_and_dicts_of_the_package_are_seen(self):
        found = {(module, name) for module, names in tables().items() for name in names}
        self.assertIn(("ratesay.formulas", "INNER"), found)
        self.assertIn(("ratesay.treesteps", "STEPS"), found)
        self.assertNotIn(("ratesay.ratios", "ONE"), found)

    def test_lists_and_dicts_that_are_read(self):
        self.assertEqual(faults_of(READ), [])

    def test_lists_and_dicts_that_are_held(self):
        for text in HOLDING:
            with self.subTest(text=text):
                self.assertIn("holds a list or a dict", " ".join(faults_of(text)))

    def test_lists_and_dicts_that_are_handed_on(self):
        for head, word in (("ROWS = [1, 2]", "ROWS"), ("from ratesay.other import THERE", "THERE")):
            for row in HANDING:
                with self.subTest(word=word, row=row):
                    text = f"{head}\n\n\ndef told(self, found):\n    {row.replace('ROWS', word)}\n"
                    self.assertIn(f"{word} is handed on", " ".join(faults_of(text)))


if __name__ == "__main__":
    unittest.main()
