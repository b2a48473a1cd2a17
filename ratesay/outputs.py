"""Which outputs and inputs belong to runs of models, and whether they are the same ones for two models."""

from ratesay.conditions import either_of, of_system
from ratesay.models import names_in, system_of
from ratesay.polynomials import less, times
from ratesay.remains import remain
from ratesay.renaming import with_names
from ratesay.sets import is_within


def inner_names(model):
    """The tuple of the names of the states, then of the parameters."""
    return tuple([x for x, _ in model[0]]) + model[1]


def is_little(model):
    """Whether a model has one state, at most one parameter, no inputs, and at most two outputs."""
    states, parameters, inputs, outputs, _ = model
    return len(states) == 1 and len(parameters) < 2 and not inputs and len(outputs) < 3


def union_left(system, upper):
    """The union that tells what remains of a system without some names."""
    union = ()
    for part in remain(system, upper)[0]:
        union = either_of(union, of_system(part))
    return union


def outputs_left(model):
    """The union that tells which outputs and inputs belong to a run of a model."""
    equations, inequations = system_of(model)
    # What quantities are asks nothing of the others.
    system = (equations[:len(equations) - len(model[4])], inequations)
    return union_left(system, inner_names(model))


def copies_beside(model, taken):
    """The dict from the states and parameters of a model to names that are not taken."""
    table = {}
    k = 0
    for name in inner_names(model):
        k += 1
        while f"c{k}" in taken:
            k += 1
        table[name] = f"c{k}"
    return table


def inner_system(model):
    """The system of a model without its outputs and quantities; what they are divided by is not 0."""
    equations, inequations = system_of(model)
    return (equations[:len(model[0]) + len(model[1])], inequations)


def covers(first, second):
    """Whether the outputs and inputs of each run of the first model belong to a run of the second one."""
    table = copies_beside(second, names_in(first))
    runs = inner_system(first)
    others = tuple([tuple([with_names(p, table) for p in side]) for side in inner_system(second)])
    told = {y: row for y, row in second[3]}
    equal = []
    for y, (n, d) in first[3]:
        m, e = [with_names(p, table) for p in told[y]]
        equal.append(less(times(n, e), times(m, d)))
    whole = (runs[0] + others[0] + tuple(equal), runs[1] + others[1])
    return is_within(of_system(runs), union_left(whole, tuple(table.values())))


def cover_each_other(first, second):
    """Whether the same outputs and inputs belong to runs of two models, told by the runs of both at once."""
    return covers(first, second) and covers(second, first)
