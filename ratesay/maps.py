"""Maps of functions, and systems and formulas that are carried by them or mixed."""

from ratesay.checks import check_polynomial, check_system
from ratesay.errors import BadFormula, BadMap, BadMix, BadPlanted, BoundName, NotBound, TooGreat
from ratesay.forms import is_count, is_fraction, is_name
from ratesay.formulas import INNER, is_formula
from ratesay.planted import function_at, integers_of_time, table_of
from ratesay.polynomials import is_polynomial, less, letter, letters_of, names_of, plus, put, scaled, times
from ratesay.rates import next_rate
from ratesay.ratios import ZERO, inverted

MOST_STEPS = 12
MOST_RATE = 6
MOST_PAIRS = 2000
MOST_COEFFICIENTS = 400


def is_number_of_scale(value):
    """Whether any value is a fraction other than 0."""
    return is_fraction(value) and value != ZERO


def is_step(value):
    """Whether any value is a step of a map."""
    if type(value) is not tuple or len(value) != 3 or type(value[0]) is not str or not is_name(value[1]):
        return False
    word, x, what = value
    if word == "put":
        return is_polynomial(what) and x not in names_of(what)
    if word == "scale":
        return is_number_of_scale(what)
    return word == "exchange" and is_name(what) and what != x


def check_map(steps):
    """BadMap if a value is no map."""
    if type(steps) is not tuple or len(steps) > MOST_STEPS:
        raise BadMap(-1)
    for place, step in enumerate(steps):
        if not is_step(step):
            raise BadMap(place)


def is_mix(value):
    """Whether any value has the form of a mix."""
    if type(value) is not tuple or not value or type(value[0]) is not str:
        return False
    word = value[0]
    if word == "add":
        if len(value) != 5 or not is_count(value[1], 0) or not is_count(value[2], 0) or value[1] == value[2]:
            return False
        return is_count(value[3], 0) and value[3] <= MOST_RATE and is_polynomial(value[4])
    if len(value) != 3 or not is_count(value[1], 0):
        return False
    if word == "scale":
        return is_number_of_scale(value[2])
    return (word == "times" or word == "exchange") and is_count(value[2], 0)


def check_mixes(mixes):
    """BadMix if a value is no tuple of mixes."""
    if type(mixes) is not tuple or len(mixes) > MOST_STEPS:
        raise BadMix(-1)
    for place, mix in enumerate(mixes):
        if not is_mix(mix):
            raise BadMix(place)


def check_places(mixes, system):
    """BadMix for the first mix with a place that a system lacks."""
    first, second = len(system[0]), len(system[1])
    for place, mix in enumerate(mixes):
        word = mix[0]
        if mix[1] >= first:
            raise BadMix(place)
        if word != "scale" and mix[2] >= (second if word == "times" else first):
            raise BadMix(place)


def weighed(p):
    """p; TooGreat if it has too many pairs."""
    if len(p) > MOST_PAIRS:
        raise TooGreat("terms")
    return p


def step_rows(step, letters):
    """The pairs (letter, polynomial) that a step puts in for some letters."""
    word, x, what = step
    if word == "exchange":
        turn = {x: what, what: x}
        return tuple([(v, letter(turn[v[0]], v[1])) for v in letters if v[0] in turn])
    orders = [k for name, k in letters if name == x]
    if word == "scale":
        return tuple([((x, k), scaled(letter(x, k), what)) for k in orders])
    rows = []
    rate = what
    at = 0
    for k in sorted(orders):
        while at < k:
            rate = next_rate(rate)
            at += 1
        rows.append(((x, k), plus(letter(x, k), rate)))
    return tuple(rows)


def carried_by(steps, f):
    """A polynomial that is carried by steps, the first one first."""
    for step in steps:
        f = weighed(put(f, step_rows(step, letters_of(f))))
    return f


def carried(steps, f):
    """A polynomial that is carried by a map."""
    check_map(steps)
    check_polynomial(f)
    return carried_by(steps, f)


def system_carried(steps, system):
    """A system whose members are carried by steps."""
    return tuple([tuple([carried_by(steps, p) for p in side]) for side in system])


def carried_system(steps, system):
    """A system that is carried by a map."""
    check_map(steps)
    check_system(system)
    return system_carried(steps, system)


def step_names(step):
    """The list of the names of a step: its own one, then the other ones, ascending."""
    word, x, what = step
    if word == "exchange":
        return [x, what]
    return [x, *(names_of(what) if word == "put" else ())]


def bound_names(formula):
    """The list of the names that are bound in a formula."""
    found = []
    if formula[0] == "some" or formula[0] == "all":
        found.append(formula[1])
    for at in INNER[formula[0]]:
        found.extend(bound_names(formula[at]))
    return found


def check_unbound(steps, formula):
    """BoundName for the first name of steps that is bound in a formula."""
    bound = bound_names(formula)
    for step in steps:
        for name in step_names(step):
            if name in bound:
                raise BoundName(name)


def formula_carried(steps, formula):
    """A formula with its polynomials carried by steps."""
    if formula[0] == "zero":
        return ("zero", carried_by(steps, formula[1]))
    inner = INNER[formula[0]]
    return tuple([formula_carried(steps, part) if at in inner else part for at, part in enumerate(formula)])


def check_formula_here(formula):
    """BadFormula if a value is no formula within the bounds."""
    if not is_formula(formula):
        raise BadFormula()


def carried_formula(steps, formula):
    """A formula that is carried by a map."""
    check_map(steps)
    check_formula_here(formula)
    check_unbound(steps, formula)
    return formula_carried(steps, formula)


def moved(formula, step):
    """A formula whose outermost quantifier goes over the functions that a step leads to."""
    check_formula_here(formula)
    if not is_step(step):
        raise BadMap(0)
    if formula[0] != "some" and formula[0] != "all" or step[0] == "exchange" or formula[1] != step[1]:
        raise NotBound()
    check_unbound((step,), formula[2])
    return (formula[0], formula[1], formula_carried((step,), formula[2]))


def turned_step(step):
    """The step that takes back a step."""
    word, x, what = step
    if word == "put":
        return (word, x, less((), what))
    return (word, x, inverted(what)) if word == "scale" else step


def inverse(steps):
    """The map that takes back a map."""
    check_map(steps)
    return tuple([turned_step(step) for step in reversed(steps)])


def led_by(step, table):
    """The dict of functions to which a step leads those of a dict."""
    word, x, what = step
    found = {name: row for name, row in table.items()}
    if word == "exchange":
        found[x], found[what] = table[what], table[x]
        return found
    p = scaled(letter(x, 0), what) if word == "scale" else plus(letter(x, 0), what)
    found[x] = function_at(p, {name: integers_of_time(row) for name, row in table.items()})
    if len(found[x]) > MOST_COEFFICIENTS:
        raise TooGreat("terms")
    return found


def led(steps, planted):
    """The functions to which a map leads planted functions."""
    check_map(steps)
    table_of(planted)
    table = {name: row for name, row in planted}
    for step in steps:
        for name in step_names(step):
            if name not in table:
                raise BadPlanted()
    for step in reversed(steps):
        table = led_by(step, table)
    return tuple([(name, table[name]) for name in sorted(table)])


def mixed_by(mix, system):
    """A system after a mix."""
    equations, inequations = list(system[0]), system[1]
    word, i, what = mix[0], mix[1], mix[2]
    if word == "exchange":
        equations[i], equations[what] = equations[what], equations[i]
    elif word == "scale":
        equations[i] = weighed(scaled(equations[i], what))
    elif word == "times":
        equations[i] = weighed(times(equations[i], inequations[what]))
    else:
        rate = equations[what]
        for _ in range(mix[3]):
            rate = next_rate(rate)
        equations[i] = weighed(plus(equations[i], times(mix[4], rate)))
    return (tuple(equations), inequations)


def system_mixed(mixes, system):
    """A system after mixes, the first one first."""
    for mix in mixes:
        system = mixed_by(mix, system)
    return system


def mixed(mixes, system):
    """A system that is changed by mixes."""
    check_mixes(mixes)
    check_system(system)
    check_places(mixes, system)
    return system_mixed(mixes, system)


def hidden(steps, mixes, system):
    """A system that is carried by a map, then changed by mixes."""
    check_map(steps)
    check_mixes(mixes)
    check_system(system)
    check_places(mixes, system)
    return system_mixed(mixes, system_carried(steps, system))
