"""Whether a polynomial is 0 at the general run of a model, told surely, however long that takes."""

from ratesay.casefinding import found_case
from ratesay.errors import TooMany
from ratesay.generalruns import Run
from ratesay.grids import count_points, is_zero_by_grid
from ratesay.homing import is_led_away
from ratesay.members import members_of
from ratesay.primes import Primes
from ratesay.rankings import places_of
from ratesay.samples import Sample, Setting
from ratesay.sizes import Sizes

# So many points are tried ahead of what tells surely.
TRIED = 3
# About as many steps as take some seconds.
MOST_STEPS = 20000000
POINT_STEPS = 200
# With more points it is better to work out the value.
MOST_POINTS = 1000000
WORD = 240


def is_seen(model, f):
    """Whether a polynomial is seen not to be 0 at the general run, at some points; False tells nothing."""
    primes = Primes(0)
    for seed in range(TRIED):
        try:
            if Sample(Setting(model, primes.another()), seed, {}).value(f):
                return True
        except TooMany:
            # The prime divides what is divided by; there are others.
            pass
    return False


def grid_steps(f, size):
    """About how many steps it takes to tell by a grid whether f is 0."""
    words = 1 + size[1].bit_length() // WORD
    return count_points(size) * (len(f) + POINT_STEPS) * words


def is_long_question(model, f):
    """Whether it takes long to tell by a grid whether f is 0."""
    size = Sizes(model).value(f)
    return size is not None and grid_steps(f, size) > MOST_STEPS


def is_zero_at_run(model, f, ranking):
    """Whether a polynomial is 0 at the general run; a general case for the ranking may be asked."""
    if not f:
        return True
    if is_seen(model, f):
        return False
    size = Sizes(model).value(f)
    if size is None:
        return True
    if grid_steps(f, size) <= MOST_STEPS:
        return is_zero_by_grid(model, f, size)
    found = told_by_case(model, f, ranking)
    if found is not None:
        return found
    if count_points(size) <= MOST_POINTS:
        return is_zero_by_grid(model, f, size)
    return not Run(model).value(f)[0]


def told_by_case(model, f, ranking):
    """Whether a polynomial is 0 at the general run, told by a general case; None if none is found."""
    try:
        case, _, _ = found_case(model, ranking)
    except TooMany:
        return None
    places = places_of(ranking)
    return is_led_away(f, members_of(case[0], places), places)
