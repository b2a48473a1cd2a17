"""Homes of cases, and papers of the cases of a system."""

from ratesay.forms import is_pair
from ratesay.members import is_steps, members_of, step_work, stepped
from ratesay.rankings import check_names, places_of
from ratesay.simple import case_names, is_case, is_shown_simple
from ratesay.trees import is_refuted, judged
from ratesay.treesteps import MOST_WORK, Budget, rate_work


def is_home(case, ranking, givens, value):
    """Whether any value is a home of a case for givens."""
    first, second = givens
    if not is_pair(value) or type(value[0]) is not tuple or type(value[1]) is not tuple:
        return False
    rows, trees = value
    if len(rows) != len(first) or len(trees) != len(second):
        return False
    equations, inequations = case
    members = members_of(equations, places_of(ranking))
    for steps in rows:
        if not is_steps(steps, len(members)):
            return False
    if not are_led_to_zero(first, members, rows):
        return False
    for q, tree in zip(second, trees):
        if not is_refuted(((*equations, q), inequations), tree):
            return False
    return True


def are_led_to_zero(equations, members, rows):
    """Whether each equation goes to 0 by its steps, and their whole work is within bounds."""
    budget = Budget()
    for p, steps in zip(equations, rows):
        if not is_led_to_zero(p, members, steps, budget):
            return False
    return True


def is_led_to_zero(p, members, steps, budget):
    """Whether p goes to 0 by the steps, within what is left of the budget."""
    g = p
    for i, j, e, m in steps:
        member = members[i]
        if not has_rates(member, j, budget):
            return False
        rate, head = member.rates[j], member.head(j)
        if not budget.spend(step_work(g, head, e, m, rate, MOST_WORK)):
            return False
        g = stepped(g, head, e, m, rate)
    return g == ()


def has_rates(member, j, budget):
    """Whether the rates of the member up to the j-th are there, those that come new within the budget."""
    while len(member.rates) <= j:
        if not budget.spend(rate_work(member.rates[-1])):
            return False
        member.grow()
    return True


def is_cases(system, ranking, cases, paper):
    """Whether cases is a tuple of cases of the system for the ranking, and paper a paper of them."""
    check_names(case_names(system), ranking)
    if type(cases) is not tuple or not is_pair(paper) or type(paper[1]) is not tuple:
        return False
    tree, papers = paper
    for pair in cases:
        if not is_case(pair, ranking):
            return False
    leaves = judged(system, None, tree)
    if leaves is None or len(leaves) != len(cases) or len(papers) != len(cases):
        return False
    for pair, leaf, row in zip(cases, leaves, papers):
        if pair != leaf[2] or not is_paper_of(pair, ranking, leaf[1], row):
            return False
    return True


def is_paper_of(pair, ranking, givens, row):
    """Whether any value is a pair (BACKING, HOME) for a case and the givens of its leaf."""
    if not is_pair(row):
        return False
    backing, home = row
    return is_shown_simple(pair, ranking, backing) and is_home(pair, ranking, givens, home)
