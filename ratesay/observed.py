"""Which states, parameters and quantities of a model have finitely many values: the rank test."""

from ratesay.errors import BadName, TooMany
from ratesay.forms import is_pair
from ratesay.generalruns import Run
from ratesay.linear import TARGET, Echelon, solved_modulo
from ratesay.matrices import reduction_of, without_content
from ratesay.packing import sum_of_products
from ratesay.polynomials import is_letter, is_polynomial, less, letters_of, partial, scaled, times
from ratesay.samples import EXPONENT, POINTS, Sample
from ratesay.variations import changed, varied

MOST_PAIRS = 5000


def own_names(model):
    """The list of the names of the states, then of the parameters."""
    return [x for x, _ in model[0]] + list(model[1])


def check_asked(model, z):
    """BadName if z is no state, parameter or quantity of the model."""
    if z not in [*own_names(model), *[q for q, _ in model[4]]]:
        raise BadName(z)


class Slopes:
    """The partial derivatives of letters by the letters of states and parameters, at one point."""

    def __init__(self, model, seed):
        names = own_names(model)
        whole = varied(model, False)
        self.samples = []
        for name in names:
            given = {(changed(other), 0): 1 if other == name else 0 for other in names}
            self.samples.append(Sample(whole, seed, EXPONENT, given))
        self.p = self.samples[0].p

    def row(self, v):
        """The list of the partial derivatives of a letter."""
        return [sample.worth((changed(v[0]), v[1])) for sample in self.samples]

    def value(self, q):
        """The value of a polynomial in letters of F."""
        return self.samples[0].value(q)


def asked_letters(model):
    """The list of the letters of the outputs by which is tested, those of low order first."""
    many = len(own_names(model))
    return [(a, j) for j in range(many) for a, _ in model[3]]


def independent_letters(model):
    """Letters of the outputs whose rows of partial derivatives are independent and span all of them."""
    slopes = Slopes(model, 0)
    echelon = Echelon(slopes.p)
    found = []
    for v in asked_letters(model):
        if echelon.take({k: n for k, n in enumerate(slopes.row(v))}) is not None:
            found.append(v)
    return found


def spanning(model, letters, z):
    """The letters among some, with independent rows, of whose rows the row of z is a combination; None if of none."""
    slopes = Slopes(model, 0)
    rows = []
    for k in range(len(own_names(model))):
        row = {column: slopes.row(v)[k] for column, v in enumerate(letters)}
        row[TARGET] = slopes.row((z, 0))[k]
        rows.append(row)
    found = solved_modulo(rows, slopes.p)
    return None if found is None else [v for column, v in enumerate(letters) if found.get(column)]


def gradient(run, names, v):
    """The pair (row, d): the partial derivatives of a letter are the polynomials of the row, divided by d."""
    for k in range(v[1]):
        # The next rate has several times as many pairs.
        if len(run.letter_value((v[0], k))[0]) > MOST_PAIRS:
            raise TooMany()
    n, powers = run.letter_value(v)
    used = [k for k, e in enumerate(powers) if e]
    ones = tuple([1 if e else 0 for e in powers])
    below = run.bottom(ones)
    row = []
    for name in names:
        w = (name, 0)
        pairs = [(partial(n, w), below)]
        for k in used:
            others = tuple([1 if e and j != k else 0 for j, e in enumerate(powers)])
            drop = times(partial(run.bottoms[k], w), run.bottom(others))
            pairs.append((scaled(n, (-powers[k], 1)), drop))
        row.append(sum_of_products(pairs))
    return (row, run.bottom(tuple([e + one for e, one in zip(powers, ones)])))


def observed(model, z):
    """A paper whether z has finitely many values at the outputs and inputs of the general run."""
    check_asked(model, z)
    names = own_names(model)
    letters = independent_letters(model)
    run = Run(model)
    last = gradient(run, names, (z, 0))
    found = spanning(model, letters, z)
    rows = [gradient(run, names, v) for v in (letters if found is None else found)]
    return free_paper(rows, last, len(names)) if found is None else finite_paper(found, rows, last)


def finite_paper(letters, rows, last):
    """The paper that the row of z is a combination of rows of letters."""
    whole = [*rows, last]
    columns = [[row[k] for row, _ in whole] for k in range(len(last[0]))]
    reduction = reduction_of(columns, len(rows))
    found = reduction.vector(len(rows), len(whole))
    # The parts of the vector belong to rows without their denominators.
    found = without_content([times(c, d) for c, (_, d) in zip(found, whole)])
    told = [(v, less((), c)) for v, c in zip(letters, found) if c]
    return ("finite", found[-1], tuple(sorted(told)))


def free_paper(rows, last, many):
    """The paper that the row of z is no combination of rows."""
    reduction = reduction_of([row for row, _ in rows], many)
    found = []
    for column in reduction.columns(many):
        vector = reduction.vector(column, many)
        if sum_of_products(list(zip(last[0], vector))):
            found.append((sum([len(p) for p in vector]), column, vector))
    return ("free", tuple(min(found)[2]))


def is_in_field(model, p):
    """Whether any value is a polynomial in letters of states and parameters of order 0, and of inputs."""
    if not is_polynomial(p):
        return False
    own = own_names(model)
    for name, k in letters_of(p):
        if name not in model[2] and (k or name not in own):
            return False
    return True


def are_finite_rows(model, value):
    """Whether any value is a tuple of ((a, j), c), ascending, each once."""
    if type(value) is not tuple:
        return False
    asked = asked_letters(model)
    last = None
    for row in value:
        if not is_pair(row) or not is_letter(row[0]) or row[0] not in asked or not is_in_field(model, row[1]):
            return False
        if last is not None and not last < row[0]:
            return False
        last = row[0]
    return True


def is_finite(model, z, s, rows):
    """Whether any values show that z has finitely many values."""
    if not is_in_field(model, s) or not s or not are_finite_rows(model, rows):
        return False
    for seed in range(POINTS):
        slopes = Slopes(model, seed)
        left = [slopes.value(s) * n for n in slopes.row((z, 0))]
        for v, c in rows:
            worth = slopes.value(c)
            left = [a - worth * n for a, n in zip(left, slopes.row(v))]
        if [n for n in left if n % slopes.p]:
            return False
    return True


def is_free(model, z, vector):
    """Whether any value shows that z has more values than any number."""
    if type(vector) is not tuple or len(vector) != len(own_names(model)):
        return False
    for p in vector:
        if not is_in_field(model, p):
            return False
    moved = False
    for seed in range(POINTS):
        slopes = Slopes(model, seed)
        worths = [slopes.value(p) for p in vector]
        for v in asked_letters(model):
            if sum([n * worth for n, worth in zip(slopes.row(v), worths)]) % slopes.p:
                return False
        if sum([n * worth for n, worth in zip(slopes.row((z, 0)), worths)]) % slopes.p:
            moved = True
    return moved


def is_observed(model, z, value):
    """"finite" or "free" if any value is a right paper whether z has finitely many values, otherwise None."""
    check_asked(model, z)
    if type(value) is not tuple or not value or type(value[0]) is not str:
        return None
    if value[0] == "finite" and len(value) == 3 and is_finite(model, z, value[1], value[2]):
        return "finite"
    if value[0] == "free" and len(value) == 2 and is_free(model, z, value[1]):
        return "free"
    return None
