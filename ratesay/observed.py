"""Which states, parameters and quantities of a model have finitely many values: the rank test."""

from ratesay.errors import BadName, TooMany
from ratesay.generalruns import Run
from ratesay.light import is_light_for_rank
from ratesay.linear import TARGET, Echelon, solved_modulo
from ratesay.minors import Parts, plain_row, product_of
from ratesay.packing import sum_of_products
from ratesay.polynomials import letter
from ratesay.primes import divides_none, great_primes
from ratesay.ranktest import is_finite, is_free
from ratesay.samples import BITS, integers_of
from ratesay.slopes import Slopes, asked_letters, gradient, own_names
from ratesay.wedges import Wedge

# Bounds of the pairs of values, and of the pairs and products of determinants: for light models, for all others.
LIGHT = (20000, (100000, 150000000))
OTHERS = (5000, (60000, 60000000))
# So many primes are tried.
TRIED = 3


def check_asked(model, z):
    """BadName if z is no state, parameter or quantity of the model."""
    if z not in [*own_names(model), *[q for q, _ in model[4]]]:
        raise BadName(z)


class Search:
    """Looks for a paper about z.

    What is independent is told by the values at one point, modulo a prime; papers are looked through all the same.
    """

    def __init__(self, model, z, p):
        self.model = model
        self.z = z
        self.names = own_names(model)
        self.run = Run(model)
        self.slopes = Slopes(model, 0, p)
        self.parts = Parts(self.known_polynomials())
        self.most, self.bounds = LIGHT if is_light_for_rank(model) else OTHERS

    def known_polynomials(self):
        """The polynomials whose factors are likely to be common ones."""
        states, _, _, outputs, _ = self.model
        return [*self.run.bottoms, *[letter(name, 0) for name in self.names], *[n for _, (n, _) in [*states, *outputs]]]

    def gradient(self, v):
        """The pair (row, powers) of the partial derivatives of a letter."""
        for k in range(v[1]):
            # The next rate has several times as many pairs.
            if len(self.run.letter_value((v[0], k))[0]) > self.most:
                raise TooMany()
        return gradient(self.run, self.names, v)

    def independent_letters(self):
        """Letters of the outputs whose rows of partial derivatives are independent and span all of them."""
        echelon = Echelon(self.slopes.p)
        found = []
        for v in asked_letters(self.model):
            if echelon.take({k: n for k, n in enumerate(self.slopes.row(v))}) is not None:
                found.append(v)
        return found

    def spanning(self, letters):
        """The letters among some of whose rows the row of z is a combination; None if of none."""
        rows = []
        for k, _ in enumerate(self.names):
            row = {column: self.slopes.row(v)[k] for column, v in enumerate(letters)}
            row[TARGET] = self.slopes.row((self.z, 0))[k]
            rows.append(row)
        found = solved_modulo(rows, self.slopes.p)
        return None if found is None else [v for column, v in enumerate(letters) if found.get(column)]

    def paper(self):
        """A paper about z that is right; None if none is found."""
        letters = self.independent_letters()
        found = self.spanning(letters)
        if found is None:
            return self.free_paper([self.gradient(v)[0] for v in letters])
        return self.finite_paper(found, [self.gradient(v) for v in found])

    def finite_paper(self, letters, rows):
        """The paper that the row of z is a combination of rows of letters, None if it is not."""
        last = self.gradient((self.z, 0))
        wedge = Wedge([row for row, _ in rows], len(self.names), self.parts, self.bounds)
        found = wedge.combination(last[0])
        if found is None:
            return None
        # The multipliers are those of rows without their denominators.
        pairs = []
        for c, (_, powers) in zip(found, [*rows, last]):
            pairs.append(product_of(self.parts.parted(c), self.parts.parted(self.run.bottom(powers))))
        found = plain_row(self.parts.taken(pairs)[0])
        told = [(v, c) for v, c in zip(letters, found) if c]
        return ("finite", found[-1], tuple(sorted(told)))

    def free_paper(self, rows):
        """The paper that the row of z is no combination of rows, None if none is found."""
        last, _ = self.gradient((self.z, 0))
        wedge = Wedge(rows, len(self.names), self.parts, self.bounds)
        found = []
        for columns in self.column_choices(rows):
            vector = wedge.kernel_vector(columns)
            if sum_of_products(list(zip(last, vector))):
                found.append((sum([len(p) for p in vector]), tuple(vector)))
        if not found or not is_free(self.model, self.z, min(found)[1]):
            return None
        return ("free", min(found)[1])

    def column_choices(self, rows):
        """The tuples of columns, ascending, one more than rows, of which as many as rows are independent."""
        echelon = Echelon(self.slopes.p)
        first = []
        weights = [(sum([len(row[k]) for row in rows]), k) for k, _ in enumerate(self.names)]
        for _, k in sorted(weights):
            values = {place: self.slopes.value(row[k]) for place, row in enumerate(rows)}
            if echelon.take(values) is not None:
                first.append(k)
        return [tuple(sorted([*first, k])) for k, _ in enumerate(self.names) if k not in first]


def observed(model, z):
    """A paper whether z has finitely many values at the outputs and inputs of the general run."""
    check_asked(model, z)
    numbers = integers_of(model)
    primes = [p for p in great_primes(BITS) if divides_none(p, numbers)]
    for p in primes[:TRIED]:
        found = Search(model, z, p).paper()
        if found is not None:
            return found
    raise TooMany()


def is_observed(model, z, value):
    """"finite" or "free" if any value is a right paper whether z has finitely many values, otherwise None."""
    check_asked(model, z)
    if type(value) is not tuple or not value or type(value[0]) is not str:
        return None
    if value[0] == "finite" and len(value) == 3 and is_finite(model, z, value[1], value[2]):
        return "finite"
    if value[0] == "free" and len(value) == 2 and is_free(model, z, value[1]):
        return "free"
    return None
