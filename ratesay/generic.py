"""The general case of a model, and what it tells: output equations, values, models with the same equations."""

from ratesay.casefinding import first_equations, found_case
from ratesay.certain import is_long_question, is_seen, is_zero_at_run
from ratesay.errors import BadOutputs, BadRanking, TooGreat, TooMany
from ratesay.homes import is_home
from ratesay.homing import is_led_away
from ratesay.irreducible import is_seen_irreducible
from ratesay.light import is_light
from ratesay.members import members_of
from ratesay.models import input_output_ranking, names_in, ranking_for, ranking_over_parameters, system_of
from ratesay.outputs import cover_each_other, is_little, outputs_left
from ratesay.polynomials import coefficients, degree, is_polynomial, less, letter, letters_of, partial, primitive, times
from ratesay.rankings import highest, is_ranking, places_of
from ratesay.sets import is_equal
from ratesay.simple import is_case, is_shown_simple
from ratesay.triangles import Triangle
from ratesay.wide import is_case_of_run, may_be_general

MOST_ORDER = 8
# Polynomials with more pairs take long to be judged.
SHORT = 100


def check_ranking(model, ranking):
    """BadRanking if a value is no ranking with just the names of the model."""
    if not is_ranking(ranking):
        raise BadRanking()
    if sorted([name for block in ranking for name in block]) != sorted(names_in(model)):
        raise BadRanking()


def general_case(model, ranking):
    """A general case of a model for a ranking."""
    check_ranking(model, ranking)
    return found_case(model, ranking)


def has_low_orders(polynomials):
    """Whether no letter of some polynomials has an order above 8."""
    for p in polynomials:
        for _, k in letters_of(p):
            if k > MOST_ORDER:
                return False
    return True


def is_general_case(model, ranking, value):
    """Whether any value is a general case of a model for a ranking with its names."""
    if type(value) is not tuple or len(value) != 3 or not is_case(value[0], ranking):
        return False
    case, backing, home = value
    if not has_low_orders([*case[0], *case[1]]) or not may_be_general(model, members_of(case[0], places_of(ranking))):
        return False
    for p in case[0]:
        if is_seen(model, p):
            return False
    if not is_shown_simple(case, ranking, backing) or not is_home(case, ranking, system_of(model), home):
        return False
    return is_case_of_run(model, ranking, case)


def is_general(model, ranking, value):
    """Whether any value is a general case of a model for a ranking."""
    check_ranking(model, ranking)
    return is_general_case(model, ranking, value)


def output_equation(model):
    """The output equation of a model with one output."""
    if len(model[3]) != 1:
        raise BadOutputs()
    ranking = ranking_over_parameters(model)
    triangle = Triangle(model, ranking)
    y = model[3][0][0]
    for at, (v, _) in enumerate(triangle.leaders):
        if v[0] == y:
            p = triangle.equation(at)
            if p is not None:
                p = primitive(p)[1]
                # What is found by values is the least relation, what elimination leaves may have factors.
                if not triangle.is_least(at) and not is_seen_irreducible(p, v):
                    raise TooMany()
                check_zero(model, p, ranking)
                return p
    raise TooMany()


def values_of(model, z):
    """The pair of the number of values of z, None if there is none, and a general case that tells it."""
    ranking = ranking_for(model, z)
    found = found_case(model, ranking)
    places = places_of(ranking)
    for p in found[0][0]:
        if highest(p, places) == (z, 0):
            return (degree(p, (z, 0)), found)
    return (None, found)


def is_outside(model, p):
    """Whether a polynomial has no letters but those of outputs and inputs."""
    outer = [*[y for y, _ in model[3]], *model[2]]
    for name, _ in letters_of(p):
        if name not in outer:
            return False
    return True


def is_told(model, z, s, r):
    """Whether s z - r is 0 at every run and s is not, s and r having letters of outputs and inputs alone."""
    ranking = ranking_for(model, z)
    if not is_outside(model, s) or not is_outside(model, r):
        return False
    if is_zero_at_run(model, s, ranking):
        return False
    return is_zero_at_run(model, less(times(s, letter(z, 0)), r), ranking)


def check_zero(model, f, ranking):
    """TooMany unless a polynomial that is 0 at some points of a model surely is 0 at its general run.

    Of light models it is taken for sure where telling it would take too long: there are not so many of them that one
    could deceive as many points as a relation is found by.
    """
    if is_long_question(model, f):
        if not is_light(model) or is_seen(model, f):
            raise TooMany()
    elif not is_zero_at_run(model, f, ranking):
        raise TooMany()


def check_alike(first, second):
    """BadOutputs unless two models have the same outputs and the same inputs."""
    for at in (2, 3):
        rows = [sorted([row if at == 2 else row[0] for row in model[at]]) for model in (first, second)]
        if rows[0] != rows[1]:
            raise BadOutputs()


def outer_members(model, equations):
    """The list of the pairs (member, leader) of those equations that have letters of outputs and inputs alone."""
    places = places_of(input_output_ranking(model))
    return [(p, highest(p, places)) for p in equations if is_outside(model, p)]


def differences(first, second):
    """The list of (f, model): equations of the first model, or heads of them, that seem to tell it from the second one.

    f is 0 at some points of that model, and surely not 0 at all runs of the other one.
    """
    found = []
    for p, v in outer_members(first, first_equations(first, input_output_ranking(first))):
        if is_seen(second, p):
            found.append((p, first))
            continue
        for q in (coefficients(p, v)[-1], partial(p, v)):
            if is_seen(first, q) and not is_seen(second, q):
                found.append((q, second))
    return found


def shortest(rows):
    """The pair (f, model) of some with the fewest pairs in f."""
    return rows[min([(len(f), k) for k, (f, _) in enumerate(rows)])[1]]


def told_apart(first, second):
    """A polynomial that is 0 at all runs of just one of two models, None if none is found."""
    rows = differences(first, second)
    if not rows or len(shortest(rows)[0]) > SHORT:
        try:
            rows.extend(differences(second, first))
        except TooMany:
            if not rows:
                raise TooMany()
    if not rows:
        return None
    f, model = shortest(rows)
    check_zero(model, f, input_output_ranking(model))
    return f


def same_equations(first, second):
    """A paper whether two models have the same equations."""
    check_alike(first, second)
    f = told_apart(first, second)
    if f is not None:
        return ("unlike", f)
    found = [found_case(model, input_output_ranking(model)) for model in (first, second)]
    if not have_same_equations(first, second, found[0][0], found[1][0]):
        raise TooMany()
    return ("same", *found)


def have_same_equations(first, second, case, other):
    """Whether models, whose general cases for the input-output rankings are told, have the same equations.

    With the same numbers of free letters that are no inputs it is enough that the ones hold for the other model.
    """
    members = outer_members(first, case[0])
    others = outer_members(second, other[0])
    if sum([v[1] for _, v in members]) != sum([v[1] for _, v in others]):
        return False
    places = places_of(input_output_ranking(second))
    divisors = members_of(tuple([p for p, _ in others]), places)
    for p, v in members:
        if is_seen(second, p) or not is_led_away(p, divisors, places):
            return False
        for q in (coefficients(p, v)[-1], partial(p, v)):
            if not is_seen(second, q) and is_led_away(q, divisors, places):
                return False
    return True


def is_same(first, second, value):
    """"same" or "unlike" if any value is a right paper whether two models have the same equations, otherwise None."""
    check_alike(first, second)
    if type(value) is not tuple or not value or type(value[0]) is not str:
        return None
    if value[0] == "unlike" and len(value) == 2:
        return "unlike" if is_apart(first, second, value[1]) else None
    if value[0] != "same" or len(value) != 3:
        return None
    for model, found in zip((first, second), value[1:]):
        if not is_general_case(model, input_output_ranking(model), found):
            return None
    return "same" if have_same_equations(first, second, value[1][0], value[2][0]) else None


def is_apart(first, second, f):
    """Whether any value is a polynomial in letters of outputs and inputs that is 0 at all runs of just one model."""
    if not is_polynomial(f) or not is_outside(first, f) or not has_low_orders([f]):
        return False
    seen = [model for model in (first, second) if is_seen(model, f)]
    if len(seen) == 2:
        return False
    if seen:
        other = second if seen[0] == first else first
        return is_zero_at_run(other, f, input_output_ranking(other))
    zeros = [is_zero_at_run(model, f, input_output_ranking(model)) for model in (first, second)]
    return zeros[0] != zeros[1]


def same_outputs(first, second):
    """Whether the same outputs and inputs belong to runs of two models."""
    check_alike(first, second)
    try:
        if told_apart(first, second) is not None:
            return False
    except TooMany:
        # What remains may be found all the same.
        pass
    little = is_little(first) and is_little(second)
    if little:
        try:
            return cover_each_other(first, second)
        except (TooMany, TooGreat):
            # What remains of each may be found all the same.
            pass
    try:
        return is_equal(outputs_left(first), outputs_left(second))
    except TooMany:
        if little:
            raise TooMany()
        return cover_each_other(first, second)
