"""Models together with small changes of their runs, and how letters change with them."""

from ratesay.packing import sum_of_products
from ratesay.polynomials import letter, letters_of, less, partial, times

# No name of a model has such a sign.
CHANGE = "~"


def changed(name):
    """The name of the change of a name."""
    return CHANGE + name


def change_of(p, moving):
    """The change of a polynomial: the sum of its derivatives by moving names times their changes."""
    return sum_of_products([(partial(p, v), letter(changed(v[0]), 0)) for v in letters_of(p) if v[0] in moving])


def rows_with_changes(rows, moving):
    """Rows (name, (n, d)), and behind them those of their changes."""
    found = list(rows)
    for name, (n, d) in rows:
        top = less(times(change_of(n, moving), d), times(n, change_of(d, moving)))
        found.append((changed(name), (top, times(d, d))))
    return tuple(found)


def varied(model, with_inputs):
    """The model with the changes of all its names, without those of inputs if with_inputs is False."""
    states, parameters, inputs, outputs, quantities = model
    moving = [x for x, _ in states] + list(parameters) + (list(inputs) if with_inputs else [])
    others = [changed(name) for name in inputs] if with_inputs else []
    return (
        rows_with_changes(states, moving),
        (*parameters, *[changed(name) for name in parameters]),
        (*inputs, *others),
        rows_with_changes(outputs, moving),
        rows_with_changes(quantities, moving),
    )
