"""The general case of a model, and what it tells: output equations, values, models with the same equations."""

from ratesay.errors import BadOutputs, BadRanking, TooGreat, TooMany
from ratesay.homes import is_home
from ratesay.homing import home_steps
from ratesay.members import members_of
from ratesay.models import input_output_ranking, names_in, ranking_for, ranking_over_parameters, system_of
from ratesay.outputs import cover_each_other, is_little, outputs_left
from ratesay.polynomials import coefficients, degree, is_polynomial, less, letter, letters_of, partial, primitive, times
from ratesay.rankings import highest, is_ranking, places_of
from ratesay.samples import Oracle
from ratesay.sets import is_equal
from ratesay.showings import shown_case
from ratesay.simple import is_case, is_shown_simple
from ratesay.triangles import Triangle

MOST_ORDER = 8
WAYS = 3


def check_ranking(model, ranking):
    """BadRanking if a value is no ranking with just the names of the model."""
    if not is_ranking(ranking):
        raise BadRanking()
    if sorted([name for block in ranking for name in block]) != sorted(names_in(model)):
        raise BadRanking()


def found_case(model, ranking):
    """A general case of a model."""
    triangle = Triangle(model, ranking)
    tried = [None]
    for way in range(WAYS):
        equations = triangle.choice(way)
        if equations not in tried:
            tried.append(equations)
            found = case_with(equations, system_of(model), ranking)
            if found is not None:
                return found
    raise TooMany()


def case_with(equations, system, ranking):
    """A general case with some equations; None if it is not shown within the bounds."""
    places = places_of(ranking)
    steps = home_steps(members_of(equations, places), places, system[0])
    if steps is None:
        return None
    try:
        case, backing, trees = shown_case(equations, ranking, places, system[1])
    except TooMany:
        return None
    return (case, backing, (steps, trees))


def general_case(model, ranking):
    """A general case of a model for a ranking."""
    check_ranking(model, ranking)
    return found_case(model, ranking)


def has_low_orders(polynomials):
    """Whether no letter of some polynomials has an order above 8."""
    for p in polynomials:
        for _, k in letters_of(p):
            if k > MOST_ORDER:
                return False
    return True


def is_general_case(model, ranking, value):
    """Whether any value is a general case of a model for a ranking with its names."""
    if type(value) is not tuple or len(value) != 3 or not is_case(value[0], ranking):
        return False
    case, backing, home = value
    if not has_low_orders([*case[0], *case[1]]):
        return False
    oracle = Oracle(model)
    for p in case[0]:
        if not oracle.is_zero(p):
            return False
    for p in case[1]:
        if oracle.is_zero(p):
            return False
    return is_shown_simple(case, ranking, backing) and is_home(case, ranking, system_of(model), home)


def is_general(model, ranking, value):
    """Whether any value is a general case of a model for a ranking."""
    check_ranking(model, ranking)
    return is_general_case(model, ranking, value)


def output_equation(model):
    """The output equation of a model with one output."""
    if len(model[3]) != 1:
        raise BadOutputs()
    triangle = Triangle(model, ranking_over_parameters(model))
    y = model[3][0][0]
    for at, (v, _) in enumerate(triangle.leaders):
        if v[0] == y:
            p = triangle.equation(at)
            if p is not None:
                return primitive(p)[1]
    raise TooMany()


def values_of(model, z):
    """The pair of the number of values of z, None if there is none, and a general case that tells it."""
    ranking = ranking_for(model, z)
    found = found_case(model, ranking)
    places = places_of(ranking)
    for p in found[0][0]:
        if highest(p, places) == (z, 0):
            return (degree(p, (z, 0)), found)
    return (None, found)


def is_outside(model, p):
    """Whether a polynomial has no letters but those of outputs and inputs."""
    outer = [*[y for y, _ in model[3]], *model[2]]
    for name, _ in letters_of(p):
        if name not in outer:
            return False
    return True


def is_told(model, z, s, r):
    """Whether s z - r is 0 at every run and s is not, s and r having letters of outputs and inputs alone."""
    ranking_for(model, z)
    if not is_outside(model, s) or not is_outside(model, r):
        return False
    oracle = Oracle(model)
    return not oracle.is_zero(s) and oracle.is_zero(less(times(s, letter(z, 0)), r))


def check_alike(first, second):
    """BadOutputs unless two models have the same outputs and the same inputs."""
    for at in (2, 3):
        rows = [sorted([row if at == 2 else row[0] for row in model[at]]) for model in (first, second)]
        if rows[0] != rows[1]:
            raise BadOutputs()


def outer_members(model, equations):
    """The list of the pairs (member, leader) of those equations that have letters of outputs and inputs alone."""
    places = places_of(input_output_ranking(model))
    return [(p, highest(p, places)) for p in equations if is_outside(model, p)]


def difference(oracle, members):
    """A polynomial that tells the equations of members from those that an oracle knows; None if none does."""
    for p, v in members:
        if not oracle.is_zero(p):
            return p
        for q in (coefficients(p, v)[-1], partial(p, v)):
            if oracle.is_zero(q):
                return q
    return None


def first_equations(model, ranking):
    """The equations of a general case that are found first."""
    triangle = Triangle(model, ranking)
    for way in range(WAYS):
        found = triangle.choice(way)
        if found is not None:
            return found
    raise TooMany()


def told_apart(first, second):
    """A polynomial that is 0 at all runs of just one of two models, None if there is none."""
    rows = []
    for model in (first, second):
        rows.append(outer_members(model, first_equations(model, input_output_ranking(model))))
    f = difference(Oracle(second), rows[0])
    return difference(Oracle(first), rows[1]) if f is None else f


def same_equations(first, second):
    """A paper whether two models have the same equations."""
    check_alike(first, second)
    f = told_apart(first, second)
    if f is not None:
        return ("unlike", f)
    return ("same", *[found_case(model, input_output_ranking(model)) for model in (first, second)])


def is_same(first, second, value):
    """"same" or "unlike" if any value is a right paper whether two models have the same equations, otherwise None."""
    check_alike(first, second)
    if type(value) is not tuple or not value or type(value[0]) is not str:
        return None
    if value[0] == "unlike" and len(value) == 2:
        return "unlike" if is_apart(first, second, value[1]) else None
    if value[0] != "same" or len(value) != 3:
        return None
    for model, found in zip((first, second), value[1:]):
        if not is_general_case(model, input_output_ranking(model), found):
            return None
    for model, found, other in ((first, value[1], second), (second, value[2], first)):
        if difference(Oracle(other), outer_members(model, found[0][0])) is not None:
            return None
    return "same"


def is_apart(first, second, f):
    """Whether any value is a polynomial in letters of outputs and inputs that is 0 at all runs of just one model."""
    if not is_polynomial(f) or not is_outside(first, f) or not has_low_orders([f]):
        return False
    return Oracle(first).is_zero(f) != Oracle(second).is_zero(f)


def same_outputs(first, second):
    """Whether the same outputs and inputs belong to runs of two models."""
    check_alike(first, second)
    try:
        if told_apart(first, second) is not None:
            return False
    except TooMany:
        # What remains may be found all the same.
        pass
    little = is_little(first) and is_little(second)
    if little:
        try:
            return cover_each_other(first, second)
        except (TooMany, TooGreat):
            # What remains of each may be found all the same.
            pass
    try:
        return is_equal(outputs_left(first), outputs_left(second))
    except TooMany:
        if little:
            raise TooMany()
        return cover_each_other(first, second)
