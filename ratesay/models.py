"""Models: states, parameters, inputs, outputs and quantities, and what holds at their general run."""

from ratesay.errors import BadName, BadNumber, TooGreat
from ratesay.forms import is_count, is_integer, is_name, is_pair
from ratesay.generalruns import Run, rate_letter, value_with
from ratesay.polynomials import as_number, is_letter, is_polynomial, less, letters_of, names_of, times
from ratesay.ratios import capped_power
from ratesay.renaming import with_names

MOST_NAMES = 12
MOST_RUNS = 4
MOST_PRODUCTS = 40000


def are_names(value):
    """Whether any value is a tuple of names."""
    if type(value) is not tuple:
        return False
    for name in value:
        if not is_name(name):
            return False
    return True


def are_told(value):
    """Whether any value is a tuple of (name, (n, d)), n and d polynomials, d not 0."""
    if type(value) is not tuple:
        return False
    for row in value:
        if not is_pair(row) or not is_name(row[0]) or not is_pair(row[1]):
            return False
        if not is_polynomial(row[1][0]) or not is_polynomial(row[1][1]) or not row[1][1]:
            return False
    return True


def have_letters(rows, names):
    """Whether the n and d of rows have no letters but some names, of the order 0."""
    for _, pair in rows:
        for p in pair:
            for name, k in letters_of(p):
                if k or name not in names:
                    return False
    return True


def is_model(value):
    """Whether any value is a model."""
    if type(value) is not tuple or len(value) != 5:
        return False
    states, parameters, inputs, outputs, quantities = value
    if not are_told(states) or not are_names(parameters) or not are_names(inputs):
        return False
    if not are_told(outputs) or not are_told(quantities):
        return False
    names = names_in(value)
    if len(names) > MOST_NAMES or len({name: True for name in names}) != len(names):
        return False
    if not outputs or not states and not parameters:
        return False
    inner = [name for name, _ in states] + list(parameters)
    if not have_letters(states, [*inner, *inputs]) or not have_letters(outputs, [*inner, *inputs]):
        return False
    return have_letters(quantities, inner)


def names_in(model):
    """The list of the names of a model, in the order of its parts."""
    states, parameters, inputs, outputs, quantities = model
    found = [name for name, _ in states] + list(parameters) + list(inputs)
    return found + [name for name, _ in outputs] + [name for name, _ in quantities]


def check_names(model, names):
    """BadName for the least of some names that the model lacks."""
    own = names_in(model)
    lacking = [name for name in names if name not in own]
    if lacking:
        raise BadName(min(lacking))


def system_of(model):
    """The pair (P, Q) of a model."""
    states, parameters, _, outputs, quantities = model
    equations = [less(times(d, rate_letter(x, 1)), n) for x, (n, d) in states]
    equations.extend([rate_letter(p, 1) for p in parameters])
    equations.extend([less(times(d, rate_letter(z, 0)), n) for z, (n, d) in [*outputs, *quantities]])
    inequations = [d for _, (_, d) in [*states, *outputs, *quantities] if as_number(d) is None]
    return (tuple(equations), tuple(inequations))


def rate_form(model, letter):
    """A pair (n, d) of polynomials: a letter is n / d at the general run."""
    check_names(model, (letter[0],))
    run = Run(model)
    return run.pair_of(run.letter_value(letter))


def put_in(model, f):
    """A pair (n, d) of polynomials: f is n / d at the general run."""
    check_names(model, names_of(f))
    run = Run(model)
    return run.pair_of(run.value(f))


def at_general_run(model, f):
    """The pair (run, what f is at the general run); TooGreat if that takes too many products."""
    check_names(model, names_of(f))
    run = Run(model)
    total = 0
    for monomial, _ in f:
        many = 1
        for v, e in monomial:
            many *= capped_power(len(run.letter_value(v)[0]), e, MOST_PRODUCTS)
        total += many
    if total > MOST_PRODUCTS:
        raise TooGreat("put")
    return (run, run.value(f))


def holds_in_runs(model, f):
    """Whether f is 0 at every run of the model."""
    return at_general_run(model, f)[1][0] == ()


def own_letters(model):
    """The letters of the states and parameters, ascending."""
    states, parameters, _, _, _ = model
    return sorted([(name, 0) for name in [*[x for x, _ in states], *parameters]])


def denominators(model):
    """The list of all d of a model."""
    states, _, _, outputs, quantities = model
    return [d for _, (_, d) in [*states, *outputs, *quantities]]


def run_against(model, f):
    """Integers for letters at which a run begins that has f not 0; None if f is 0 at every run."""
    _, (n, _) = at_general_run(model, f)
    if not n:
        return None
    rows = [n, *denominators(model)]
    seen = {v: True for v in own_letters(model)}
    for p in rows:
        for v in letters_of(p):
            seen[v] = True
    found = []
    for v in sorted(seen):
        t, rows = with_number(rows, v)
        found.append((v, t))
    return tuple(found)


def with_number(rows, v):
    """The pair of an integer at which no polynomial of some that are not 0 becomes 0, and these with it for v."""
    t = 0
    while True:
        found = [value_with(p, v, t) for p in rows]
        if () not in found:
            return (t, found)
        t += 1


def is_against(model, f, value):
    """Whether any value tells integers for letters at which a run begins that has f not 0."""
    _, (n, _) = at_general_run(model, f)
    if type(value) is not tuple:
        return False
    last = None
    for row in value:
        if not is_pair(row) or not is_letter(row[0]) or not is_integer(row[1]):
            return False
        if last is not None and not last < row[0]:
            return False
        last = row[0]
    table = {v: t for v, t in value}
    own = own_letters(model)
    for v in own:
        if v not in table:
            return False
    for v in table:
        if v not in own and v[0] not in model[2]:
            return False
    for p in [n, *denominators(model)]:
        for v in letters_of(p):
            p = value_with(p, v, table.get(v, 0))
        if not p:
            return False
    return True


def with_digit(rows, table):
    """Rows (name, (n, d)) with other names for some names."""
    found = []
    for name, pair in rows:
        found.append((table.get(name, name), tuple([with_names(p, table) for p in pair])))
    return found


def runs_of(model, m):
    """The model of m runs with the same parameters."""
    if not is_count(m, 1) or m > MOST_RUNS:
        raise BadNumber(m)
    states, parameters, inputs, outputs, quantities = model
    kept = [row for row in quantities if have_letters((row,), parameters)]
    moving = [name for name, _ in states] + list(inputs) + [name for name, _ in outputs]
    if m * len(moving) + len(parameters) + len(kept) > MOST_NAMES:
        raise TooGreat("names")
    found = ([], [], [])
    for i in range(1, m + 1):
        table = {name: f"{name}{i}" for name in moving}
        found[0].extend(with_digit(states, table))
        found[1].extend([table[name] for name in inputs])
        found[2].extend(with_digit(outputs, table))
    whole = (tuple(found[0]), parameters, tuple(found[1]), tuple(found[2]), tuple(kept))
    seen = {}
    for name in names_in(whole):
        if not is_name(name) or name in seen:
            raise BadName(name)
        seen[name] = True
    return whole


def blocks(rows):
    """The ranking of some blocks without the empty ones."""
    return tuple([tuple(row) for row in rows if row])


def parts_of(model):
    """The five lists of the names of a model."""
    states, parameters, inputs, outputs, quantities = model
    first = [name for name, _ in states]
    return (first, list(parameters), list(inputs), [name for name, _ in outputs], [name for name, _ in quantities])


def input_output_ranking(model):
    """The ranking that ends with the outputs and the inputs."""
    states, parameters, inputs, outputs, quantities = parts_of(model)
    return blocks((states + parameters + quantities, outputs, inputs))


def ranking_over_parameters(model):
    """The ranking that ends with the outputs, the parameters and the inputs."""
    states, parameters, inputs, outputs, quantities = parts_of(model)
    return blocks((states + quantities, outputs, parameters, inputs))


def ranking_for(model, z):
    """The ranking that ends with a state, parameter or quantity z, the outputs and the inputs."""
    states, parameters, inputs, outputs, quantities = parts_of(model)
    upper = states + parameters + quantities
    if z not in upper:
        raise BadName(z)
    return blocks(([name for name in upper if name != z], [z], outputs, inputs))
