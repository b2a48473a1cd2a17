"""Exact division of polynomials in the packed form."""

from heapq import heapify, heappop, heappush

from ratesay.images import may_divide, residues
from ratesay.packing import common_content, fraction_rows, frame_of, integer_rows, small_scale
from ratesay.ratios import inverted, multiplied, reduced, summed

# Divisors and dividends with fewer products of pairs than this are divided without a look ahead.
QUICK = 24


def fields_of(frame, rows):
    """The highest exponent in each field of a list of (key, coefficient)."""
    tops = [0 for _ in frame.letters]
    for key, _ in rows:
        for k, e in frame.fields(key):
            if e > tops[k]:
                tops[k] = e
    return tops


def room_for(frame, rows, divisor):
    """The packed highest exponents that a quotient may have; None if there can be none."""
    tops = fields_of(frame, rows)
    needed = fields_of(frame, divisor)
    room = 0
    for k, top in enumerate(tops):
        if top < needed[k]:
            return None
        room += (top - needed[k]) << (k * frame.width)
    return room


def divided_integers(rows, divisor, guards, room):
    """The dict of the quotient of two lists of (key, integer), or None if it is no such list."""
    table = dict(rows)
    lead, head = max(divisor)
    tail = [(key - lead, n) for key, n in divisor if key != lead]
    heap = [-key for key in table]
    heapify(heap)
    found = {}
    while heap:
        key = -heappop(heap)
        n = table[key]
        if n == 0:
            continue
        factor, left = divmod(n, head)
        if left or ((key | guards) - lead) & guards != guards:
            return None
        at = key - lead
        if ((room | guards) - at) & guards != guards:
            return None
        found[at] = factor
        for offset, m in tail:
            place = key + offset
            if place in table:
                table[place] -= factor * m
            else:
                table[place] = -factor * m
                heappush(heap, -place)
    return found


def divided_fractions(rows, divisor, guards, room):
    """The dict of the quotient of two lists of (key, fraction), or None if there is none."""
    table = {key: [f] for key, f in rows}
    lead, head = max(divisor)
    turn = inverted(head)
    tail = [(key - lead, f) for key, f in divisor if key != lead]
    heap = [-key for key in table]
    heapify(heap)
    found = {}
    while heap:
        key = -heappop(heap)
        rest = summed(table.pop(key))
        if rest[0] == 0:
            continue
        at = key - lead
        if ((key | guards) - lead) & guards != guards or ((room | guards) - at) & guards != guards:
            return None
        factor = multiplied(rest, turn)
        found[at] = factor
        for offset, f in tail:
            place = key + offset
            if place not in table:
                table[place] = []
                heappush(heap, -place)
            table[place].append((-factor[0] * f[0], factor[1] * f[1]))
    return found


def exact(p, q):
    """The pairs (monomial, fraction), in any order, of the r with q r = p; None if there is none; q is not 0."""
    frame = frame_of(p, q)
    rows, divisor = fraction_rows(frame, p), fraction_rows(frame, q)
    room = room_for(frame, rows, divisor)
    if room is None or not promising(frame, rows, divisor):
        return None
    left, right = small_scale(p), small_scale(q)
    if left and right:
        found = exact_integers(frame, integer_rows(frame, p, left), integer_rows(frame, q, right), room)
        if found is None:
            return None
        pairs = [(key, reduced(f[0] * right, f[1] * left)) for key, f in found]
    else:
        table = divided_fractions(rows, divisor, frame.guards(), room)
        if table is None:
            return None
        pairs = list(table.items())
    return [(frame.unpacked(key), f) for key, f in pairs]


def exact_integers(frame, rows, divisor, room):
    """The pairs (key, fraction) of the quotient of two lists of (key, integer), or None."""
    content, plain = without_content(rows)
    other, primitive = without_content(divisor)
    table = divided_integers(plain, primitive, frame.guards(), room)
    if table is None:
        return None
    return [(key, reduced(n * content, other)) for key, n in table.items()]


def without_content(rows):
    """The pair of the greatest common divisor of the integers of rows, and the rows without it."""
    content = common_content(rows)
    if content == 1:
        return (1, rows)
    return (content, [(key, n // content) for key, n in rows])


def promising(frame, rows, divisor):
    """False only if the divisor surely does not divide."""
    if len(rows) * len(divisor) < QUICK:
        return True
    a, b = residues(rows), residues(divisor)
    if a is None or b is None:
        return True
    tops = fields_of(frame, divisor)
    for k, top in enumerate(tops):
        if top:
            return may_divide(frame, b, a, k)
    return True
