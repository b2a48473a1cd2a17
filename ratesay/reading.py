"""Texts of polynomials as trees of parts, with their counts.

A part is ("number", fraction), ("letter", name, k), ("sum", ((sign, part), ..)),
("product", (part, ..)) or ("power", part, e). Each method that reads one returns the pair
of its count and the part; counts above CAP stay there.
"""

from ratesay.errors import BadText
from ratesay.forms import DIGITS, LONGEST_NAME, SMALL
from ratesay.ratios import capped_power, reduced

CAP = 5001
MOST_OPEN = 30
MOST_DIGITS = 200
MOST_ORDER = 20
MOST_EXPONENT = 12


class Reader:
    """Reads a text sign by sign, so that it stops at the first one that cannot stand there."""

    def __init__(self, text):
        self.text = text
        self.at = 0

    def sign(self):
        """The sign at this place, the empty string at the end."""
        return self.text[self.at:self.at + 1]

    def among(self, signs):
        """Whether the sign at this place is one of the signs."""
        return self.at < len(self.text) and self.text[self.at] in signs

    def skip_blanks(self):
        """Goes on to the next sign that is no blank."""
        while self.among(" "):
            self.at += 1

    def whole(self):
        """The whole text as a sum."""
        found = self.sum_part(0)
        if self.at < len(self.text):
            raise BadText(self.at)
        return found

    def sum_part(self, depth):
        """A sum within so many open parentheses, and the blanks behind it."""
        self.skip_blanks()
        sign = 1
        if self.among("-"):
            self.at += 1
            sign = -1
        count, part = self.product_part(depth)
        parts = [(sign, part)]
        while self.among("+-"):
            sign = 1 if self.sign() == "+" else -1
            self.at += 1
            more, part = self.product_part(depth)
            count = min(count + more, CAP)
            parts.append((sign, part))
        return (count, ("sum", tuple(parts)))

    def product_part(self, depth):
        """A product, and the blanks behind it."""
        count, part = self.power_part(depth)
        parts = [part]
        while self.among("*"):
            self.at += 1
            more, part = self.power_part(depth)
            count = min(count * more, CAP)
            parts.append(part)
        return (count, ("product", tuple(parts)))

    def power_part(self, depth):
        """A power, and the blanks before and behind it."""
        self.skip_blanks()
        count, part = self.atom(depth)
        self.skip_blanks()
        if not self.among("^"):
            return (count, part)
        self.at += 1
        self.skip_blanks()
        e = self.bounded(MOST_EXPONENT)
        self.skip_blanks()
        return (min(capped_power(count, e, CAP), CAP), ("power", part, e))

    def atom(self, depth):
        """A number, a letter, or a sum in parentheses."""
        if self.among(DIGITS):
            return (1, ("number", self.fraction()))
        if self.among(SMALL):
            return (1, self.letter_part())
        if not self.among("(") or depth == MOST_OPEN:
            raise BadText(self.at)
        self.at += 1
        found = self.sum_part(depth + 1)
        if not self.among(")"):
            raise BadText(self.at)
        self.at += 1
        return found

    def digits(self):
        """The number of the digits in a row that begin here, at most MOST_DIGITS of them."""
        start = self.at
        while self.among(DIGITS) and self.at - start < MOST_DIGITS:
            self.at += 1
        return int(self.text[start:self.at])

    def fraction(self):
        """A number."""
        n = self.digits()
        if not self.among("/"):
            return (n, 1)
        self.at += 1
        return reduced(n, self.lower_digits())

    def lower_digits(self):
        """Digits in a row that are not all 0: as long as they are, one further digit must have room."""
        start = self.at
        found = 0
        while self.among(DIGITS) and self.at - start < MOST_DIGITS:
            digit = int(self.text[self.at])
            if found == 0 and digit == 0 and self.at - start == MOST_DIGITS - 1:
                raise BadText(self.at)
            found = found * 10 + digit
            self.at += 1
        if found == 0:
            raise BadText(self.at)
        return found

    def bounded(self, most):
        """Digits in a row whose number is at most most."""
        start = self.at
        found = 0
        while self.among(DIGITS) and self.at - start < MOST_DIGITS:
            found = found * 10 + int(self.text[self.at])
            if found > most:
                raise BadText(self.at)
            self.at += 1
        if self.at == start:
            raise BadText(self.at)
        return found

    def letter_part(self):
        """A letter: a name with apostrophes or with an order in brackets."""
        start = self.at
        while (self.among(SMALL) or self.among(DIGITS)) and self.at - start < LONGEST_NAME:
            self.at += 1
        name = self.text[start:self.at]
        if self.among("["):
            self.at += 1
            k = self.bounded(MOST_ORDER)
            if not self.among("]"):
                raise BadText(self.at)
            self.at += 1
            return ("letter", name, k)
        k = 0
        while self.among("'") and k < MOST_ORDER:
            self.at += 1
            k += 1
        return ("letter", name, k)
