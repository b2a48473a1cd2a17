"""Partial derivatives of letters, at the general run of a model, by the letters of states and parameters."""

from ratesay.packing import sum_of_products
from ratesay.polynomials import partial, scaled, times
from ratesay.samples import Sample, Setting
from ratesay.variations import changed, varied


def own_names(model):
    """The list of the names of the states, then of the parameters."""
    return [x for x, _ in model[0]] + list(model[1])


def asked_letters(model):
    """The list of the letters of the outputs by which is tested, those of low order first."""
    many = len(own_names(model))
    return [(a, j) for j in range(many) for a, _ in model[3]]


class Slopes:
    """The partial derivatives of letters at one point, modulo a prime."""

    def __init__(self, model, seed, p):
        names = own_names(model)
        setting = Setting(varied(model, False), p)
        self.p = p
        self.samples = []
        for name in names:
            given = {(changed(other), 0): 1 if other == name else 0 for other in names}
            self.samples.append(Sample(setting, seed, given))

    def row(self, v):
        """The list of the partial derivatives of a letter."""
        return [sample.worth((changed(v[0]), v[1])) for sample in self.samples]

    def value(self, q):
        """The value of a polynomial in letters of F."""
        return self.samples[0].value(q)


def gradient(run, names, v):
    """The pair (row, powers): the partial derivatives of a letter are the polynomials of the row, divided by d.

    d is the product of the denominators of the run to the powers.
    """
    n, powers = run.letter_value(v)
    used = [k for k, e in enumerate(powers) if e]
    ones = tuple([1 if e else 0 for e in powers])
    below = run.bottom(ones)
    row = []
    for name in names:
        w = (name, 0)
        pairs = [(partial(n, w), below)]
        for k in used:
            others = tuple([1 if e and j != k else 0 for j, e in enumerate(powers)])
            drop = times(partial(run.bottoms[k], w), run.bottom(others))
            pairs.append((scaled(n, (-powers[k], 1)), drop))
        row.append(sum_of_products(pairs))
    return (row, tuple([e + one for e, one in zip(powers, ones)]))
