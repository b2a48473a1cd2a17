"""Whether the papers of the rank test are right, told surely."""

from ratesay.errors import TooMany
from ratesay.forms import is_pair
from ratesay.generalruns import Run
from ratesay.minors import Parts
from ratesay.packing import sum_of_products
from ratesay.polynomials import is_letter, is_polynomial, less, letters_of, partial, quotient, times
from ratesay.primes import Primes
from ratesay.slopes import Slopes, asked_letters, gradient, own_names

TRIED = 2


def is_in_field(model, p):
    """Whether any value is a polynomial in letters of states and parameters of order 0, and of inputs."""
    if not is_polynomial(p):
        return False
    own = own_names(model)
    for name, k in letters_of(p):
        if name not in model[2] and (k or name not in own):
            return False
    return True


def are_finite_rows(model, value):
    """Whether any value is a tuple of ((a, j), c), ascending, each once."""
    if type(value) is not tuple:
        return False
    asked = asked_letters(model)
    last = None
    for row in value:
        if not is_pair(row) or not is_letter(row[0]) or row[0] not in asked or not is_in_field(model, row[1]):
            return False
        if last is not None and not last < row[0]:
            return False
        last = row[0]
    return True


def some_slopes(model):
    """The list of the partial derivatives at some points."""
    primes = Primes(0)
    found = []
    for seed in range(TRIED):
        try:
            found.append(Slopes(model, seed, primes.another()))
        except TooMany:
            # The prime divides what is divided by; there are others.
            pass
    return found


def is_seen_not_finite(model, z, s, rows):
    """Whether s times the row of z is seen not to be the sum of rows; False tells nothing."""
    for slopes in some_slopes(model):
        try:
            left = [slopes.value(s) * n for n in slopes.row((z, 0))]
            for v, c in rows:
                worth = slopes.value(c)
                left = [a - worth * n for a, n in zip(left, slopes.row(v))]
        except TooMany:
            continue
        if [n for n in left if n % slopes.p]:
            return True
    return False


def lowered_pair(run, c, powers):
    """A pair (c, powers) of a fraction without the denominators that divide c."""
    found = list(powers)
    for k, d in enumerate(run.bottoms):
        q = quotient(c, d) if found[k] and c else None
        while q is not None:
            c = q
            found[k] -= 1
            q = quotient(c, d) if found[k] else None
    return (c, found)


def is_finite(model, z, s, rows):
    """Whether any values show that z has finitely many values."""
    if not is_in_field(model, s) or not s or not are_finite_rows(model, rows):
        return False
    return not is_seen_not_finite(model, z, s, rows) and are_alike_rows(model, z, s, rows)


def are_alike_rows(model, z, s, rows):
    """Whether s times the row of partial derivatives of z is the sum of multiples of those of letters."""
    run = Run(model)
    names = own_names(model)
    parts = []
    for v, c in [((z, 0), less((), s)), *rows]:
        row, powers = gradient(run, names, v)
        c, powers = lowered_pair(run, c, powers)
        parts.append((c, row, powers))
    tops = [max([powers[k] for _, _, powers in parts]) for k, _ in enumerate(run.bottoms)]
    factors = [times(c, run.bottom([a - b for a, b in zip(tops, powers)])) for c, _, powers in parts]
    for k, _ in enumerate(names):
        if sum_of_products([(factor, row[k]) for factor, (_, row, _) in zip(factors, parts)]):
            return False
    return True


def is_free(model, z, vector):
    """Whether any value shows that z has more values than any number."""
    if type(vector) is not tuple or len(vector) != len(own_names(model)):
        return False
    for p in vector:
        if not is_in_field(model, p):
            return False
    if is_seen_not_free(model, vector):
        return False
    run = Run(model)
    if not moved(model, run, z, vector):
        return False
    return are_at_rest(model, run, vector)


def is_seen_not_free(model, vector):
    """Whether a vector is seen to move some output; False tells nothing."""
    for slopes in some_slopes(model):
        try:
            worths = [slopes.value(p) for p in vector]
            for v in asked_letters(model):
                if sum([n * worth for n, worth in zip(slopes.row(v), worths)]) % slopes.p:
                    return True
        except TooMany:
            # The prime divides what is divided by.
            pass
    return False


def moved(model, run, z, vector):
    """What z changes by along a vector, times something other than 0."""
    row, _ = gradient(run, own_names(model), (z, 0))
    return sum_of_products(list(zip(row, vector)))


def are_at_rest(model, run, vector):
    """Whether no output, and no rate of one, changes along a vector.

    The rates do not if the outputs do not along the vector, nor along how the rates of letters change with it, and so
    on. It is enough to go on until there is nothing new.
    """
    parts = Parts(run.bottoms)
    for _ in own_names(model):
        for a, _ in model[3]:
            if moved(model, run, a, vector):
                return False
        further = parts.divided(bracket(model, run, vector))
        if is_multiple(further, vector):
            return True
        vector = further
    return True


def bracket(model, run, vector):
    """The vector of the rates of a vector less the changes of the rates along it, times something other than 0."""
    names = own_names(model)
    found = []
    twice = tuple([2 * e for e in run.scale])
    for name, p in zip(names, vector):
        pairs = [(run.scaled_rate(p), run.bottom(run.scale))]
        if name in run.slopes:
            row, powers = gradient(run, names, (name, 1))
            left = run.bottom([a - b for a, b in zip(twice, powers)])
            pairs.extend([(less((), times(part, left)), q) for part, q in zip(row, vector) if part and q])
        found.append(sum_of_products(pairs))
    return found


def is_multiple(row, vector):
    """Whether a row of polynomials surely is a multiple of a vector other than 0."""
    place = min([(len(p), k) for k, p in enumerate(vector) if p])[1]
    factor = quotient(row[place], vector[place])
    if factor is None:
        return are_parallel(row, vector, place)
    for p, q in zip(row, vector):
        if p != times(factor, q):
            return False
    return True


def are_parallel(row, vector, place):
    """Whether a row of polynomials is a fraction times a vector, which is not 0 at a place."""
    for p, q in zip(row, vector):
        if times(p, vector[place]) != times(q, row[place]):
            return False
    return True
