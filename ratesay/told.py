"""Functions that are told by others, how many values they have, and how free the solutions are."""

from ratesay.checks import check_system
from ratesay.conditions import holds_at, is_condition, of_system
from ratesay.errors import BadName, BadNames, BadRows
from ratesay.finding import cases_of
from ratesay.following import answer_about
from ratesay.forms import is_count, is_name, is_pair
from ratesay.members import members_of
from ratesay.planted import check_told, table_of
from ratesay.polynomials import degree, less, letter
from ratesay.rankings import highest, is_ranking, places_of
from ratesay.refusals import is_refusal
from ratesay.remains import lower_part, told_cases, two_blocks
from ratesay.renaming import with_names
from ratesay.sets import check_set, excluding
from ratesay.simple import case_names, looked_at_case
from ratesay.trees import is_shown


def number_of_values(case, places, name):
    """The number of values of a name in a simple case, None if there are more than any number."""
    for p in case[0]:
        if highest(p, places) == (name, 0):
            return degree(p, (name, 0))
    return None


def values_in(case, ranking, name):
    """The number of values of a name alone in its block in a simple case, None if there are more than any number."""
    _, places = looked_at_case(case, ranking)
    if (name,) not in ranking:
        raise BadName(name)
    return number_of_values(case, places, name)


def are_names(value):
    """Whether any value is a tuple of distinct names."""
    return type(value) is tuple and (not value or is_ranking((value,)))


def check_asked(x, ys):
    """The errors of a name and of others that may tell it."""
    if not is_name(x):
        raise BadName(x)
    if not are_names(ys):
        raise BadNames()
    if x in ys:
        raise BadName(x)


def copies(system, x, ys):
    """The tuple of (name, copy) of the names of a system and x, without the ys."""
    check_system(system)
    check_asked(x, ys)
    return copies_of(system, x, ys)


def copies_of(system, x, ys):
    """The tuple of (name, copy) of the names of a system and x, without the ys."""
    names = case_names(system)
    taken = {name: True for name in [*names, x, *ys]}
    found = []
    k = 0
    for name in sorted(taken):
        if name in ys:
            continue
        k += 1
        while f"c{k}" in taken:
            k += 1
        found.append((name, f"c{k}"))
    return tuple(found)


def twice(polynomials, table):
    """Polynomials, and behind them those with other names that do not stand there yet."""
    found = list(polynomials)
    for p in polynomials:
        q = with_names(p, table)
        if q not in found:
            found.append(q)
    return tuple(found)


def doubled(system, x, ys):
    """The system of a solution and another one that agrees with it in the ys."""
    check_system(system)
    check_asked(x, ys)
    return doubled_by(system, copies_of(system, x, ys))


def doubled_by(system, pairs):
    """The system doubled by pairs (name, copy)."""
    table = {name: copy for name, copy in pairs}
    return (twice(system[0], table), twice(system[1], table))


def doubled_question(system, x, ys):
    """The triple (doubled system, x less its copy, ranking)."""
    pairs = copies_of(system, x, ys)
    table = {name: copy for name, copy in pairs}
    block = tuple(sorted([*table, *[copy for _, copy in pairs]]))
    ranking = (block, tuple(sorted(ys))) if ys else (block,)
    return (doubled_by(system, pairs), less(letter(x, 0), letter(table[x], 0)), ranking)


def told_by(system, x, ys):
    """("yes", tree) if x is told by the ys in a system, otherwise ("no", paper)."""
    check_system(system)
    check_asked(x, ys)
    whole, f, ranking = doubled_question(system, x, ys)
    return answer_about(whole, f, places_of(ranking))


def is_told_by(system, x, ys, answer):
    """Whether any value is an answer to the question whether x is told by the ys."""
    check_system(system)
    check_asked(x, ys)
    whole, f, ranking = doubled_question(system, x, ys)
    if not is_pair(answer):
        return False
    if answer[0] == "yes":
        return is_shown(whole, f, answer[1])
    return answer[0] == "no" and is_refusal(whole, f, ranking, answer[1])


def check_counted(union, x, ys):
    """The errors of a union, a name and others by which its values are counted."""
    check_set(union)
    if not is_name(x):
        raise BadName(x)
    if not are_names(ys):
        raise BadNames()
    for condition in union:
        for name in case_names(condition):
            if name != x and name not in ys:
                raise BadNames()
    if x in ys:
        raise BadName(x)


def rows_of_cases(cases, places, x):
    """The rows that the cases of a condition give."""
    found = []
    for case in cases:
        for condition in of_system(lower_part(case, (x,))):
            found.append((condition, number_of_values(case, places, x)))
    return found


def counts(U, x, ys):
    """The pair (rows, entries): how many values x has at the ys where a union holds."""
    check_counted(U, x, ys)
    rows = []
    entries = []
    for condition in excluding(U):
        names = case_names(condition)
        if x not in names:
            rows.append((condition, None))
            continue
        ranking = two_blocks((x,), names)
        cases, paper = cases_of(condition, ranking)
        entries.append(paper)
        rows.extend(rows_of_cases(cases, places_of(ranking), x))
    return (tuple(rows), tuple(entries))


def are_rows(value):
    """Whether any value is a tuple of pairs of a condition and an integer from 1 on, or None."""
    if type(value) is not tuple:
        return False
    for row in value:
        if not is_pair(row) or not is_condition(row[0]):
            return False
        if row[1] is not None and not is_count(row[1], 1):
            return False
    return True


def is_counts(U, x, ys, answer):
    """Whether any value tells how many values x has at the ys where a union holds."""
    check_counted(U, x, ys)
    if not is_pair(answer) or not are_rows(answer[0]) or type(answer[1]) is not tuple:
        return False
    rows = []
    at = 0
    for condition in excluding(U):
        names = case_names(condition)
        if x not in names:
            rows.append((condition, None))
            continue
        if at == len(answer[1]):
            return False
        ranking = two_blocks((x,), names)
        cases = told_cases(condition, ranking, answer[1][at])
        if cases is None:
            return False
        at += 1
        rows.extend(rows_of_cases(cases, places_of(ranking), x))
    return at == len(answer[1]) and tuple(rows) == answer[0]


def number_at(rows, functions):
    """The number of values that rows tell at functions of the time, None if there are more than any number."""
    if not are_rows(rows):
        raise BadRows()
    if not rows:
        return 0
    table = table_of(functions)
    for (first, second), _ in rows:
        check_told([*first, *second], table)
    found = [d for condition, d in rows if holds_at(condition, table)]
    if None in found:
        return None
    return sum(found)


def checked_names(system, names):
    """The ranking of one block of names, ascending, when the system and they have been looked at."""
    check_system(system)
    if not are_names(names) or not names:
        raise BadNames()
    for name in case_names(system):
        if name not in names:
            raise BadNames()
    return (tuple(sorted(names)),)


def freedom_in(cases, ranking):
    """The greatest pair (names that lead nothing, sum of the orders of leaders) over cases, None if there are none."""
    found = None
    places = places_of(ranking)
    for equations, _ in cases:
        members = members_of(equations, places)
        pair = (len(places) - len(members), sum([member.leader[1] for member in members]))
        if found is None or found < pair:
            found = pair
    return found


def freedom(system, names):
    """The pair of the freedom of a system, and a paper of the cases that show it."""
    ranking = checked_names(system, names)
    cases, paper = cases_of(system, ranking)
    return (freedom_in(cases, ranking), paper)


def is_freedom(system, names, value):
    """Whether any value is the pair of the freedom of a system and a paper of cases."""
    ranking = checked_names(system, names)
    if not is_pair(value):
        return False
    cases = told_cases(system, ranking, value[1])
    return cases is not None and is_freedom_value(value[0], freedom_in(cases, ranking))


def is_freedom_value(value, found):
    """Whether any value is a freedom; True and False are no integers."""
    if found is None:
        return value is None
    return is_pair(value) and is_count(value[0], 0) and is_count(value[1], 0) and value == found
