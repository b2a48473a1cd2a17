"""Monomials packed into integers, so that products of monomials are sums of integers."""

from math import gcd, lcm

from ratesay.ratios import reduced, summed

# Above this many bits a common denominator makes sums slower than it makes them simple.
SMALL_BITS = 320


class Frame:
    """Fields for letters, ascending from the lowest bits, each with a free bit above it."""

    def __init__(self, letters, top):
        self.letters = letters
        self.width = top.bit_length() + 1
        self.mask = (1 << self.width) - 1
        self.shifts = {}
        for k, letter in enumerate(letters):
            self.shifts[letter] = k * self.width

    def packed(self, monomial):
        """The integer of a monomial."""
        key = 0
        for letter, e in monomial:
            key += e << self.shifts[letter]
        return key

    def fields(self, key):
        """The pairs (place of a letter, exponent) of an integer, ascending."""
        found = []
        left = key
        while left:
            at = ((left & -left).bit_length() - 1) // self.width
            shift = at * self.width
            e = (left >> shift) & self.mask
            found.append((at, e))
            left -= e << shift
        return found

    def unpacked(self, key):
        """The monomial of an integer."""
        return tuple([(self.letters[at], e) for at, e in self.fields(key)])

    def guards(self):
        """The free bits of all fields."""
        bit = 1 << (self.width - 1)
        found = 0
        for k in range(len(self.letters)):
            found += bit << (k * self.width)
        return found


def note_letters(p, seen):
    """Adds the letters of p to the dict seen; the highest exponent in p."""
    top = 0
    for monomial, _ in p:
        for letter, e in monomial:
            seen[letter] = True
            if e > top:
                top = e
    return top


def frame_of(p, q):
    """A frame in which the product of p and q has room."""
    seen = {}
    top = note_letters(p, seen) + note_letters(q, seen)
    return Frame(sorted(seen), top)


def small_scale(p):
    """The least common denominator of p, or 0 if it has too many bits to be worth while."""
    scale = 1
    for _, f in p:
        if scale % f[1]:
            scale = lcm(scale, f[1])
            if scale.bit_length() > SMALL_BITS:
                return 0
    return scale


def integer_rows(frame, p, scale):
    """The pairs (packed monomial, scale times coefficient) of p."""
    return [(frame.packed(monomial), f[0] * (scale // f[1])) for monomial, f in p]


def fraction_rows(frame, p):
    """The pairs (packed monomial, coefficient) of p."""
    return [(frame.packed(monomial), f) for monomial, f in p]


def common_content(rows):
    """The greatest common divisor of the integers of a list of (key, integer)."""
    content = 0
    for _, n in rows:
        content = gcd(content, n)
        if content == 1:
            return 1
    return content


def add_integer_products(table, rows, others):
    """Adds the products of two lists of (key, integer) to a dict."""
    for key, n in rows:
        for other, m in others:
            at = key + other
            if at in table:
                table[at] += n * m
            else:
                table[at] = n * m


def integer_product(rows, others):
    """The products of two lists of (key, integer), added up in a dict."""
    table = {}
    add_integer_products(table, rows, others)
    return table


def add_fraction_products(table, rows, others):
    """Puts the products of two lists of (key, fraction) behind the lists of a dict."""
    for key, f in rows:
        for other, g in others:
            table.setdefault(key + other, []).append((f[0] * g[0], f[1] * g[1]))


def sum_of_products(pairs):
    """The sum of the products p q of a list of pairs (p, q) of polynomials."""
    seen = {}
    top = 0
    scale = 1
    scales = []
    for p, q in pairs:
        top = max(top, note_letters(p, seen) + note_letters(q, seen))
        scales.append((small_scale(p), small_scale(q)))
    for left, right in scales:
        scale = joined_scale(scale, left * right)
    frame = Frame(sorted(seen), top)
    table = {}
    for (p, q), (left, right) in zip(pairs, scales):
        if scale:
            rows = integer_rows(frame, p, scale // right)
            add_integer_products(table, rows, integer_rows(frame, q, right))
        else:
            add_fraction_products(table, fraction_rows(frame, p), fraction_rows(frame, q))
    if scale:
        return from_integers(frame, table, scale)
    return from_parts(frame, table)


def joined_scale(scale, other):
    """The least common multiple of two scales, 0 if one is 0 or it has too many bits."""
    if not scale or not other:
        return 0
    found = lcm(scale, other)
    if found.bit_length() > 2 * SMALL_BITS:
        return 0
    return found


def from_integers(frame, table, scale):
    """The polynomial of a dict from packed monomials to integers, divided by scale."""
    found = [(frame.unpacked(key), reduced(n, scale)) for key, n in table.items() if n]
    return tuple(sorted(found))


def from_parts(frame, table):
    """The polynomial of a dict from packed monomials to lists of the parts of coefficients."""
    found = []
    for key, parts in table.items():
        f = summed(parts)
        if f[0]:
            found.append((frame.unpacked(key), f))
    return tuple(sorted(found))
