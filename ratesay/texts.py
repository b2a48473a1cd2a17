"""Texts of polynomials: reading and writing them."""

from ratesay.collecting import total
from ratesay.errors import TooGreat
from ratesay.polynomials import letter, number, raised, scaled, times
from ratesay.ratios import ONE
from ratesay.reading import CAP, Reader

LONGEST = 4000


def read(text):
    """The polynomial of a text."""
    if len(text) > LONGEST:
        raise TooGreat("length")
    count, part = Reader(text).whole()
    if count >= CAP:
        raise TooGreat("count")
    return worth_of(part)


def worth_of(part):
    """The polynomial of a part."""
    kind = part[0]
    if kind == "number":
        return number(part[1])
    if kind == "letter":
        return letter(part[1], part[2])
    if kind == "power":
        # A part to the power 0 may have any count, so it is not worked out.
        return raised(worth_of(part[1]) if part[2] else (), part[2])
    if kind == "product":
        return product_of([worth_of(factor) for factor in part[1]])
    return total([scaled(worth_of(member), (sign, 1)) for sign, member in part[1]])


def product_of(factors):
    """The product of a list, not empty, of polynomials."""
    # Multiplying in a tree keeps most of the products small.
    rest = factors
    while len(rest) > 1:
        found = [times(rest[k], rest[k + 1]) for k in range(0, len(rest) - 1, 2)]
        if len(rest) & 1:
            found.append(rest[-1])
        rest = found
    return rest[0]


def text_of(p):
    """The text of a polynomial."""
    if not p:
        return "0"
    parts = []
    for monomial, (n, d) in p:
        if n < 0:
            parts.append(" - " if parts else "-")
        elif parts:
            parts.append(" + ")
        parts.append(term_text(monomial, (abs(n), d)))
    return "".join(parts)


def term_text(monomial, amount):
    """The text of a term whose fraction is not below 0."""
    factors = [letter_text(v, e) for v, e in monomial]
    if amount != ONE or not factors:
        factors = [amount_text(amount), *factors]
    return "*".join(factors)


def amount_text(f):
    """The text of a fraction that is not below 0."""
    n, d = f
    if d == 1:
        return str(n)
    return str(n) + "/" + str(d)


def letter_text(v, e):
    """The text of a letter to the power e."""
    name, k = v
    if k <= 2:
        text = name + "'" * k
    else:
        text = f"{name}[{k}]"
    if e == 1:
        return text
    return f"{text}^{e}"
