"""What follows from a system: growing the tree of an answer "yes", or finding the paper of an answer "no"."""

from ratesay.beginning import found_point, start_at
from ratesay.branches import Scope
from ratesay.errors import TooMany
from ratesay.identities import cost_of, identity_of
from ratesay.members import members_of
from ratesay.parting import advance, split
from ratesay.searching import MOST_NODES, MOST_SPENT, case_of, noted_root, sorted_by_number, tree_of
from ratesay.verdicts import brought_down, placed_zero

MOST_COST = 400000
MOST_PAIRS = 1000


def answer_about(system, f, places):
    """The answer whether f follows from a system: ("yes", tree) or ("no", paper)."""
    if not f:
        return ("yes", (((("sum", ()),), ("goal", len(system[0]), 1, ())),))
    scope = Scope(places, True, MOST_SPENT)
    waiting = [noted_root(scope, system)]
    found = []
    given_up = False
    count = 1
    while waiting:
        branch = waiting.pop()
        ask = advance(scope, branch)
        if ask is not None:
            first, second = split(scope, branch, ask, count)
            waiting.append(second)
            waiting.append(first)
            count += 2
        elif branch.end[0] == "case":
            paper = paper_at(scope, branch, system, f)
            if paper is not None:
                return ("no", paper)
            given_up = given_up or branch.end[0] == "case"
        found.append((branch.number, branch))
        if count > MOST_NODES and not waiting or count > 4 * MOST_NODES:
            raise TooMany()
    if given_up:
        raise TooMany()
    return ("yes", tree_of([branch for _, branch in sorted_by_number(found)]))


def paper_at(scope, branch, system, f):
    """The paper that f is not 0 at some solution of an open leaf; None if it is 0 at all, or none is found.

    If it is 0 at all, the leaf ends with the goal.
    """
    chain, r = brought_down(scope, branch, f)
    if not r:
        place = placed_zero(scope, branch, chain)
        branch.end = ("goal", place, 1, ())
        return None
    try:
        return paper_of(case_of(branch), scope.places, system, f, r)
    except TooMany:
        return None


def paper_of(case, places, system, f, r):
    """The paper that f, to which r belongs, is not 0 at some solution of a simple case of the system."""
    members = members_of(case[0], places)
    check_sizes(case)
    identities = []
    for p in system[0]:
        s, rows = identity_of(case, members, places, p)
        for i, j, _ in rows:
            members[i].rate_within(j, 3 * MOST_PAIRS)
        if cost_of(members, rows) > MOST_COST:
            raise TooMany()
        identities.append((s, rows))
    point = found_point(case, members, places, r)
    asked = [s for s, _ in identities] + [*system[1], f]
    start, turns = start_at(case, members, places, point, asked)
    homes = tuple([(s, rows, turns[k]) for k, (s, rows) in enumerate(identities)])
    return (case, start, homes, tuple(turns[len(identities):]))


def check_sizes(case):
    """TooMany if a member of a case is too great for a paper."""
    for p in [*case[0], *case[1]]:
        if len(p) > MOST_PAIRS:
            raise TooMany()
