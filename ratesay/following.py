"""What follows from a system: growing the tree of an answer "yes", or finding the paper of an answer "no"."""

from ratesay.beginning import found_point, start_at
from ratesay.branches import Scope
from ratesay.errors import TooMany
from ratesay.identities import cost_of, identity_of
from ratesay.members import members_of
from ratesay.polynomials import UNIT
from ratesay.searching import MOST_NODES, MOST_SPENT, MOST_TRIED, Growth, case_of
from ratesay.tower_numbers import rest
from ratesay.verdicts import brought_down, placed_zero

MOST_COST = 400000
MOST_PAIRS = 1000


def answer_about(system, f, places):
    """The answer whether f follows from a system: ("yes", tree) or ("no", paper)."""
    if not f:
        return ("yes", (((("sum", ()),), ("goal", len(system[0]), 1, ())),))
    scope = Scope(places, True, MOST_SPENT)
    growth = Growth(scope, system)
    given_up = False
    while growth.waiting:
        branch = growth.step()
        if branch is not None and branch.end[0] == "case":
            paper = paper_at(scope, branch, system, f)
            if paper is not None:
                return ("no", paper)
            given_up = given_up or branch.end[0] == "case"
        if growth.count > MOST_TRIED:
            raise TooMany()
    if given_up or growth.count > MOST_NODES:
        raise TooMany()
    return ("yes", growth.tree())


def paper_at(scope, branch, system, f):
    """The paper that f is not 0 at some solution of an open leaf; None if it is 0 at all, or none is found.

    If it is 0 at all, the leaf ends with the goal.
    """
    # At most places a polynomial is not 0, so two are tried before f is reduced.
    case = case_of(branch)
    for spread in (0, 1):
        found = tried_paper(case, scope.places, system, f, UNIT, spread)
        if found is not None:
            return found
    chain, r = brought_down(scope, branch, f)
    if not r:
        place = placed_zero(scope, branch, chain)
        branch.end = ("goal", place, 1, ())
        return None
    return tried_paper(case, scope.places, system, f, r, 0)


def tried_paper(case, places, system, f, r, spread):
    """The paper that f is not 0 at some solution of a simple case at which r is not; None if none is found."""
    try:
        return paper_of(case, places, system, f, r, spread)
    except TooMany:
        return None


def paper_of(case, places, system, f, r, spread):
    """The paper that f is not 0 at some solution of a simple case of the system, at which r is not 0."""
    members = members_of(case[0], places)
    check_sizes(case)
    point = found_point(case, members, places, r, spread)
    start, turns = start_at(case, members, places, point, [*system[1], f])
    homes = []
    for p in system[0]:
        s, rows = identity_of(case, members, places, p)
        for i, j, _ in rows:
            members[i].rate_within(j, 3 * MOST_PAIRS)
        if cost_of(members, rows) > MOST_COST:
            raise TooMany()
        homes.append((s, rows))
    told = [point.inverse_of(s) for s, _ in homes]
    tower = point.tower
    values = tuple([(v, rest(tower, u)) for v, u in start[1]])
    start = (tower, values, with_rests(tower, start[2]), with_rests(tower, start[3]))
    whole = tuple([(s, rows, rest(tower, u)) for (s, rows), u in zip(homes, told)])
    return (case, start, whole, with_rests(tower, turns))


def with_rests(tower, numbers):
    """Numbers of a tower, as numbers of a part of it."""
    return tuple([rest(tower, u) for u in numbers])


def check_sizes(case):
    """TooMany if a member of a case is too great for a paper."""
    for p in [*case[0], *case[1]]:
        if len(p) > MOST_PAIRS:
            raise TooMany()
