"""Which models are light: those for which an answer is promised."""

from ratesay.monomials import degree_of

MOST_OWN = 2
MOST_DEGREE = 2
MOST_PAIRS = 3
GREATEST = 9


def is_light_polynomial(p, most):
    """Whether a polynomial has a low degree, few pairs, and integers of one digit."""
    if degree_of(p) > most or len(p) > MOST_PAIRS:
        return False
    for _, (n, d) in p:
        if abs(n) > GREATEST or d != 1:
            return False
    return True


def are_light_rows(rows, most):
    """Whether the n and d of rows (name, (n, d)) are light."""
    for _, pair in rows:
        for p in pair:
            if not is_light_polynomial(p, most):
                return False
    return True


def has_light_parts(model, most):
    """Whether a model has few names, so many parameters at most, and light n and d, those of outputs aside."""
    states, parameters, inputs, outputs, quantities = model
    if len(states) > MOST_OWN or len(parameters) > most or len(quantities) > 1:
        return False
    if len(inputs) > 1 or len(outputs) > (1 if inputs else 2):
        return False
    return are_light_rows([*states, *quantities], MOST_DEGREE)


def is_light(model):
    """Whether a model is light."""
    return has_light_parts(model, MOST_OWN) and are_light_rows(model[3], 1 if model[2] else MOST_DEGREE)


def is_light_for_rank(model):
    """Whether a model is light for the rank test."""
    return has_light_parts(model, MOST_OWN + 1) and are_light_rows(model[3], MOST_DEGREE)
