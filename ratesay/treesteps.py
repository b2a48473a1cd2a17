"""The steps and ends of trees: their forms, their conditions, and what they place.

Each function takes the equations and inequations of a node as they are at that moment, and
a Budget. It returns None where something is not right, or the bounds are passed.
"""

from ratesay.forms import is_count, is_pair
from ratesay.packing import sum_of_products
from ratesay.polynomials import UNIT, alike, is_polynomial, plus, raised, times
from ratesay.rates import next_rate
from ratesay.ratios import capped_power

MOST_ROWS = 60
MOST_EXPONENT = 60
MOST_WORK = 3000000


class Budget:
    """The work done so far in a tree."""

    def __init__(self):
        self.spent = 0

    def spend(self, work):
        """Whether the whole work stays within bounds, with this work too."""
        self.spent += work
        return self.spent <= MOST_WORK


def is_place(value, count):
    """Whether any value is a place among so many."""
    return is_count(value, 0) and value < count


def is_exponent(value, least):
    """Whether any value is an exponent from least on, within bounds."""
    return is_count(value, least) and value <= MOST_EXPONENT


def is_power_row(value, count):
    """Whether any value is a power row over so many inequations."""
    if type(value) is not tuple:
        return False
    last = -1
    for pair in value:
        if not is_pair(pair) or not is_place(pair[0], count) or not is_exponent(pair[1], 1):
            return False
        if pair[0] <= last:
            return False
        last = pair[0]
    return True


def is_sum_row(value, count):
    """Whether any value is a sum row over so many equations, within bounds."""
    if type(value) is not tuple or len(value) > MOST_ROWS:
        return False
    for pair in value:
        if not is_pair(pair) or not is_place(pair[0], count) or not is_polynomial(pair[1]):
            return False
    return True


def power_work(inequations, powers):
    """The work of a power row; some integer above the bound if that is above it."""
    work = 1
    for j, e in powers:
        work *= capped_power(len(inequations[j]), e, MOST_WORK)
        if work > MOST_WORK:
            work = MOST_WORK + 1
    return work


def power_product(inequations, powers):
    """The product of a power row."""
    found = UNIT
    for j, e in powers:
        if not inequations[j]:
            return ()
    for j, e in powers:
        found = times(found, raised(inequations[j], e))
    return found


def product_with(g, inequations, powers):
    """g times the product of a power row."""
    # A product with 0 costs no work, however great the power row is.
    if not g:
        return ()
    return times(g, power_product(inequations, powers))


def row_work(equations, rows):
    """The work of a sum row."""
    return sum([len(m) * len(equations[i]) for i, m in rows])


def row_sum(equations, rows):
    """The polynomial of a sum row."""
    return sum_of_products([(m, equations[i]) for i, m in rows])


def rate_work(p):
    """The work of a rate of p."""
    return sum([len(monomial) for monomial, _ in p])


def rate_step(step, equations, inequations, budget):
    """The polynomial of ("rate", i)."""
    if len(step) != 2 or not is_place(step[1], len(equations)):
        return None
    p = equations[step[1]]
    if not budget.spend(rate_work(p)):
        return None
    return next_rate(p)


def sum_step(step, equations, inequations, budget):
    """The polynomial of ("sum", ROWS)."""
    if len(step) != 2 or not is_sum_row(step[1], len(equations)):
        return None
    if not budget.spend(row_work(equations, step[1])):
        return None
    return row_sum(equations, step[1])


def cancel_step(step, equations, inequations, budget):
    """The polynomial of ("cancel", i, g, POWERS)."""
    if len(step) != 4 or not is_place(step[1], len(equations)) or not is_polynomial(step[2]):
        return None
    _, i, g, powers = step
    if not is_power_row(powers, len(inequations)):
        return None
    if not budget.spend(power_work(inequations, powers) * len(g)):
        return None
    return g if alike(equations[i], product_with(g, inequations, powers)) else None


def root_step(step, equations, inequations, budget):
    """The polynomial of ("root", i, g, k)."""
    if len(step) != 4 or not is_place(step[1], len(equations)) or not is_polynomial(step[2]):
        return None
    _, i, g, k = step
    if not is_exponent(k, 2) or not budget.spend(capped_power(len(g), k, MOST_WORK)):
        return None
    return g if alike(equations[i], raised(g, k)) else None


def nonzero_step(step, equations, inequations, budget):
    """The polynomial of ("nonzero", POWERS, ROWS)."""
    if len(step) != 3 or not is_power_row(step[1], len(inequations)) or not is_sum_row(step[2], len(equations)):
        return None
    _, powers, rows = step
    if not budget.spend(power_work(inequations, powers) + row_work(equations, rows)):
        return None
    return plus(power_product(inequations, powers), row_sum(equations, rows))


def divisor_step(step, equations, inequations, budget):
    """The polynomial of ("divisor", POWERS, g, h)."""
    if len(step) != 4 or not is_power_row(step[1], len(inequations)):
        return None
    _, powers, g, h = step
    if not is_polynomial(g) or not is_polynomial(h):
        return None
    if not budget.spend(power_work(inequations, powers) + len(g) * len(h)):
        return None
    return g if alike(power_product(inequations, powers), times(g, h)) else None


STEPS = {
    "rate": rate_step,
    "sum": sum_step,
    "cancel": cancel_step,
    "root": root_step,
    "nonzero": nonzero_step,
    "divisor": divisor_step,
}


def has_word(value):
    """Whether any value is a tuple that begins with a word."""
    return type(value) is tuple and len(value) > 0 and type(value[0]) is str


def step_side(step):
    """The side, "E" or "N", that a right step's polynomial joins."""
    return "N" if step[0] in ("nonzero", "divisor") else "E"


def placed_by(step, equations, inequations, budget):
    """The polynomial that any value places as a step, or None if it is no right step."""
    if not has_word(step) or step[0] not in STEPS:
        return None
    action = STEPS[step[0]]
    return action(step, equations, inequations, budget)


def is_contradiction(end, equations, inequations, budget):
    """Whether a value is a right end ("contradiction", i, POWERS)."""
    if len(end) != 3 or not is_place(end[1], len(equations)) or not is_power_row(end[2], len(inequations)):
        return False
    if not budget.spend(power_work(inequations, end[2])):
        return False
    return alike(equations[end[1]], power_product(inequations, end[2]))


def is_goal(end, goal, equations, inequations, budget):
    """Whether a value is a right end ("goal", i, k, POWERS) for a goal, None for no goal."""
    if goal is None or len(end) != 4 or not is_place(end[1], len(equations)):
        return False
    _, i, k, powers = end
    if not is_exponent(k, 1) or not is_power_row(powers, len(inequations)):
        return False
    work = power_work(inequations, powers) * capped_power(len(goal), k, MOST_WORK)
    if not budget.spend(work):
        return False
    if not work:
        return not equations[i]
    return alike(equations[i], product_with(raised(goal, k), inequations, powers))


def are_places(value, count):
    """Whether any value is a tuple of different places among so many."""
    if type(value) is not tuple:
        return False
    seen = set()
    for place in value:
        if not is_place(place, count) or place in seen:
            return False
        seen.add(place)
    return True


def is_case_end(end, equations, inequations):
    """Whether a value is a right end ("case", I, J)."""
    return len(end) == 3 and are_places(end[1], len(equations)) and are_places(end[2], len(inequations))


def is_split(end, node, count):
    """Whether a value is an end ("split", h, j, k) of a node of so many, with two later nodes."""
    if len(end) != 4 or not is_polynomial(end[1]):
        return False
    _, _, j, k = end
    return is_place(j, count) and is_place(k, count) and j > node and k > node and j != k
