"""Point 7: reading and writing texts."""

import re
import unittest

from ratesay.errors import BadText, TooGreat
from ratesay.polynomials import is_polynomial, letter, number, plus, power, scaled, times
from ratesay.texts import read, text_of
from tests.helpers import random_polynomial, rng_of

TOKEN = re.compile(r" *(?:([a-z][a-z0-9]{0,7})(?:('{1,20})|\[([0-9]{1,200})\])?|([0-9]{1,200})(?:/([0-9]{1,200}))?|([-+*^()]))")


def symbols(text):
    """The text as a row of signs, one for each token: a letter, n number, d digits, the others as they are; or None."""
    found, at = "", 0
    text = text.rstrip(" ")
    while at < len(text):
        match = TOKEN.match(text, at)
        if not match:
            return None
        name, marks, order, digits, under, sign = match.groups()
        at = match.end()
        if name:
            if order and int(order) > 20:
                return None
            found += "a"
        elif sign:
            found += sign
        elif under is None and found.endswith("^"):
            if int(digits) > 12:
                return None
            found += "d"
        elif under is not None and int(under) == 0:
            return None
        else:
            found += "n"
    return found


def is_right(text):
    """Whether a text is right: a recognizer of another make than the program's."""
    row = symbols(text)
    if row is None:
        return False
    open_now = most = 0
    for sign in row:
        open_now += {"(": 1, ")": -1}.get(sign, 0)
        most = max(most, open_now)
    if most > 30:
        return False
    row = row.replace("n", "a")
    while True:
        shorter = re.sub(r"\(-?a(\^d)?([-+*]a(\^d)?)*\)", "a", row)
        if shorter == row:
            return bool(re.fullmatch(r"-?a(\^d)?([-+*]a(\^d)?)*", row))
        row = shorter


def begins_right(text):
    """Whether a text is the beginning of a right one."""
    for tail in ("", "1", "]", "0]"):
        for count in range(0, text.count("(") + 1):
            if is_right(text + tail + ")" * count):
                return True
    return False


def place_of_fault(text):
    """The length of the longest beginning that begins a right text."""
    at = len(text)
    while not begins_right(text[:at]):
        at -= 1
    return at


class ReadingTest(unittest.TestCase):
    def bad(self, text, at):
        with self.assertRaises(BadText) as caught:
            read(text)
        self.assertEqual(caught.exception.at, at, text)

    def great(self, text, what):
        with self.assertRaises(TooGreat) as caught:
            read(text)
        self.assertEqual(caught.exception.what, what)

    def test_examples(self):
        self.bad("", 0)
        self.bad("  ", 2)
        self.bad("x^13", 3)
        self.bad("x '", 2)
        self.bad("abcdefghi", 8)
        self.bad("3/0", 3)
        self.bad("2x", 1)
        self.assertEqual(read("3/01"), number((3, 1)))
        self.assertEqual(read("2/4"), number((1, 2)))
        self.assertEqual(read("-x^2"), scaled(power(letter("x", 0), 2), (-1, 1)))
        self.assertEqual(text_of(read("(x + 1)*(x - 1)")), "-1 + x^2")

    def test_tokens(self):
        self.assertEqual(read("x'''"), letter("x", 3))
        self.assertEqual(read("x[3]"), letter("x", 3))
        self.assertEqual(read("x[003]"), letter("x", 3))
        self.assertEqual(read("x[0]"), letter("x", 0))
        self.assertEqual(read("x" + "'" * 20), letter("x", 20))
        self.assertEqual(read("abcdefg8[20]"), letter("abcdefg8", 20))
        self.assertEqual(read("007"), number((7, 1)))
        self.assertEqual(read("0/5"), ())
        self.assertEqual(read("x^0"), number((1, 1)))
        self.assertEqual(read("0^0"), number((1, 1)))
        self.assertEqual(read("x^0012"), power(letter("x", 0), 12))

    def test_grammar(self):
        x, y = letter("x", 0), letter("y", 0)
        self.assertEqual(read("x - y - x + 2*y"), y)
        self.assertEqual(read("-x*y + x*y"), ())
        self.assertEqual(read("-(x - y)^2*3/2"), scaled(power(plus(x, scaled(y, (-1, 1))), 2), (-3, 2)))
        self.assertEqual(read("((-x))^3"), scaled(power(x, 3), (-1, 1)))
        self.assertEqual(read("2*x^2*y^3"), scaled(times(power(x, 2), power(y, 3)), (2, 1)))

    def test_blanks(self):
        self.assertEqual(read("  ( x  +  1/2 ) ^ 2 * - 3".replace("* - 3", "- 3  ")), read("(x+1/2)^2-3"))
        for text, at in (("x y", 2), ("1 2", 2), ("1 /2", 2), ("1/ 2", 2), ("x [3]", 2), ("x[ 3]", 2), ("x[3 ]", 3),
                         ("x' '", 3), ("x\ty", 1), ("\nx", 0), ("x\u00a0", 1), ("x ^2 3", 5)):
            self.bad(text, at)

    def test_faults(self):
        cases = [("+x", 0), ("--x", 1), ("x*-y", 2), ("x^-1", 2), ("x^2^3", 3), ("x^(2)", 2), ("x^2/3", 3), ("x+", 2),
                 ("x + ", 4), ("(x", 2), ("(x))", 3), (")", 0), ("()", 1), ("x*", 2), ("x^", 2), ("x[", 2), ("x[3", 3),
                 ("x[]", 2), ("x[a]", 2), ("x'[3]", 2), ("x[3]'", 4), ("X", 0), ("x.", 1), ("3/", 2), ("3//4", 2),
                 ("3/x", 2), ("3/0 ", 3), ("3/0+1", 3), ("3/00x", 4), ("1.5", 1), ("x^y", 2), ("x(y)", 1), ("2(x)", 1),
                 ("(x)(y)", 3), ("x = 0", 2), ("x\n", 1), ("\u00e9", 0), ("x\u0663", 1), ("\u0663", 0), ("x^\u0662", 2),
                 ("x[\u0662]", 2), ("3/\u0662", 2), ("x''y", 3), ("12ab", 2), ("x**2", 2), ("x+-1", 2)]
        for text, at in cases:
            self.bad(text, at)

    def test_bounds_of_orders(self):
        self.assertEqual(read("x[20]"), letter("x", 20))
        self.bad("x[21]", 3)
        self.bad("x[30]", 3)
        self.bad("x[200]", 4)
        self.bad("x[021]", 4)
        self.bad("x" + "'" * 21, 21)
        self.assertEqual(read("x[" + "0" * 198 + "20]"), letter("x", 20))
        self.bad("x[" + "0" * 198 + "21]", 201)
        self.bad("x[" + "0" * 201 + "]", 202)

    def test_bounds_of_exponents(self):
        self.assertEqual(read("x^12"), power(letter("x", 0), 12))
        self.bad("x^013", 4)
        self.bad("x^20", 3)
        self.bad("x^120", 4)
        self.assertEqual(read("x^" + "0" * 198 + "12"), power(letter("x", 0), 12))
        self.bad("x^" + "0" * 198 + "13", 201)
        self.bad("x^" + "0" * 201, 202)

    def test_bounds_of_parentheses(self):
        self.assertEqual(read("(" * 30 + "x" + ")" * 30), letter("x", 0))
        self.bad("(" * 31 + "x" + ")" * 31, 30)
        self.bad("(" * 30, 30)
        self.assertEqual(read("+".join(["(" * 30 + "x" + ")" * 30] * 3)), read("3*x"))
        self.bad("(" * 30 + "x)" + "+((x", 34)

    def test_bounds_of_digits(self):
        nines = "9" * 200
        self.assertEqual(read(nines), number((int(nines), 1)))
        self.bad(nines + "9", 200)
        self.bad("1" + "0" * 200, 200)
        self.assertEqual(read("1/" + nines), number((1, int(nines))))
        self.bad("1/" + nines + "9", 202)
        self.bad("x + 0" + nines, 204)
        self.assertEqual(read("1/" + "0" * 199 + "1"), number((1, 1)))
        self.assertEqual(read("1/1" + "0" * 199), number((1, 10 ** 199)))
        self.assertEqual(read("1/" + "0" * 198 + "10"), number((1, 10)))
        self.bad("1/" + "0" * 199, 201)
        self.bad("1/" + "0" * 200, 201)
        self.bad("1/" + "0" * 200 + "1", 201)
        self.assertEqual(read("0" * 200), ())

    def test_bounds_of_names(self):
        self.assertEqual(read("abcdefgh"), letter("abcdefgh", 0))
        self.assertEqual(read("a2345678'"), letter("a2345678", 1))
        self.bad("a23456789", 8)
        self.bad("x + abcdefghi", 12)

    def test_length_goes_ahead_of_bad_text(self):
        self.bad("?" * 4000, 0)
        self.great("?" * 4001, "length")
        self.great(" " * 4001, "length")
        self.assertEqual(read(" " * 3999 + "x"), letter("x", 0))
        self.great(" " * 4000 + "x", "length")

    def test_count(self):
        sums = {2: "(a+b)", 5: "(a+b+c+d+e)", 10: "(a+b+c+d+e+f+g+h+i+j)"}
        exact = sums[10] + "^3*" + sums[5]
        self.assertEqual(len(read(exact)), 645)
        self.great(exact + "+a", "count")
        self.great(exact + "-1", "count")
        self.assertEqual(read("(" + exact + ")^1"), read(exact))
        self.great(exact + "*(a+a)", "count")
        self.assertEqual(read("0*" + exact), ())
        self.great("(a+b)^12+(a+b)^10", "count")
        self.assertEqual(len(read("(a+b)^12+(a+b)^9+(a+b)^8+(a+b)^7+a+b+1+2+3+4+5+6")), 13 + 10 + 9 + 8 + 2 + 1)
        self.assertEqual(read("((((a+b)^12)^12)^12)^0"), number((1, 1)))
        self.assertEqual(read("x*((a+b)^12*(a+b)^12)^0"), letter("x", 0))
        self.great("(" * 29 + "a+b" + ")^12" * 29, "count")
        self.assertEqual(read("(" * 29 + "a" + ")^12" * 29), ((((("a", 0), 12 ** 29),), (1, 1)),))

    def test_bad_text_goes_ahead_of_count(self):
        self.bad("((a+b)^12)^12*", 14)
        self.bad("((a+b)^12)^12 x", 14)

    def test_long_sums_and_products(self):
        self.assertEqual(read("+".join(["x"] * 2000)), read("2000*x"))
        self.assertEqual(read("*".join(["x"] * 2000)), ((((("x", 0), 2000),), (1, 1)),))
        names = [f"{a}{b}" for a in "abcdefghijklmnopqrst" for b in range(10, 75)]
        self.assertEqual(len(read("+".join(names[:1000]))), 1000)
        self.assertEqual(len(read("*".join(names[:1000]))[0][0]), 1000)

    def test_random_texts_against_another_recognizer(self):
        rng = rng_of(1)
        wrong = right = 0
        for _ in range(6000):
            signs = rng.choice(["x1'[]/0+-*^() ", "xa9'+-*()^2 ", "x[20]'19", "1/0 ", "abcdefgh1+", "(x)-^1"])
            text = "".join(rng.choice(signs) for _ in range(rng.randint(0, 14)))
            try:
                found = read(text)
                right += 1
                self.assertTrue(is_polynomial(found))
                self.assertTrue(is_right(text), text)
            except BadText as fault:
                wrong += 1
                self.assertEqual(fault.at, place_of_fault(text), text)
        self.assertGreater(right, 200)
        self.assertGreater(wrong, 2000)

    def test_mutated_texts_against_another_recognizer(self):
        rng = rng_of(2)
        base = "-(x'^2 - 3/04*y[3])^2*(1 + x1)^12 + abcdefgh"
        for _ in range(3000):
            row = list(base)
            for _ in range(rng.randint(1, 2)):
                at = rng.randrange(len(row))
                row[at] = rng.choice(["", " ", "0", "x", "(", ")", "-", "'", "/", "^", "]", row[at] * 2])
            text = "".join(row)
            try:
                read(text)
                self.assertTrue(is_right(text), text)
            except BadText as fault:
                self.assertEqual(fault.at, place_of_fault(text), text)
            except TooGreat:
                self.assertTrue(is_right(text), text)


class WritingTest(unittest.TestCase):
    def test_sign_by_sign(self):
        cases = {
            "0": "0",
            "1": "1",
            "-1": "-1",
            "6/4": "3/2",
            "-3/2": "-3/2",
            "x": "x",
            "-x": "-x",
            "x'": "x'",
            "x''": "x''",
            "x'''": "x[3]",
            "x[20]^2": "x[20]^2",
            "x'^2 - 4*x": "-4*x + x'^2",
            "(x + 1)*(x - 1)": "-1 + x^2",
            "3/2*x*y^2": "3/2*x*y^2",
            "-3/2*x*y^2 + 1": "1 - 3/2*x*y^2",
            "y - x": "-x + y",
            "x^6 + x*y + x^5 + y": "x*y + x^5 + x^6 + y",
            "x*x'*x''*x[3]": "x*x'*x''*x[3]",
            "x1^12*ab": "ab*x1^12",
        }
        for text, written in cases.items():
            self.assertEqual(text_of(read(text)), written)

    def test_beyond_what_is_read(self):
        self.assertEqual(text_of(letter("x", 21)), "x[21]")
        self.assertEqual(text_of(((((("x", 0), 13),), (1, 1)),)), "x^13")
        great = 10 ** 3999
        self.assertEqual(text_of(number((-great, great + 1))), f"-{great}/{great + 1}")

    def test_reading_what_was_written(self):
        rng = rng_of(3)
        letters = [("x", 0), ("x", 1), ("x", 2), ("x", 3), ("abcdefg9", 20), ("a", 10)]
        for _ in range(300):
            p = random_polynomial(rng, letters, 6, rng.randint(0, 8), rng.choice([9, 10 ** 100]))
            self.assertEqual(read(text_of(p)), p)


if __name__ == "__main__":
    unittest.main()
