"""Finding general cases: equations are found, then the papers that show their case."""

from ratesay.errors import TooMany
from ratesay.homing import home_steps
from ratesay.members import members_of
from ratesay.models import system_of
from ratesay.rankings import places_of
from ratesay.showings import shown_case
from ratesay.triangles import Triangle
from ratesay.wide import is_case_of_run

WAYS = 4


def found_case(model, ranking):
    """A general case of a model."""
    triangle = Triangle(model, ranking)
    tried = [None]
    for way in range(WAYS):
        equations = triangle.choice(way)
        if equations not in tried:
            tried.append(equations)
            found = case_with(equations, system_of(model), ranking)
            if found is not None and is_case_of_run(model, ranking, found[0]):
                return found
    raise TooMany()


def case_with(equations, system, ranking):
    """A simple case with some equations and a home; None if it is not shown within the bounds."""
    places = places_of(ranking)
    members = members_of(equations, places)
    steps = None if members is None else home_steps(members, places, system[0])
    if steps is None:
        return None
    try:
        case, backing, trees = shown_case(equations, ranking, places, system[1])
    except TooMany:
        return None
    return (case, backing, (steps, trees))


def first_equations(model, ranking):
    """The equations of a general case that are found first, not shown."""
    triangle = Triangle(model, ranking)
    for way in range(WAYS):
        found = triangle.choice(way)
        if found is not None:
            return found
    raise TooMany()
