"""Rankings of letters, and what a polynomial leads with."""

from ratesay.errors import BadLetter, BadPolynomial, BadRanking, NoLeader
from ratesay.forms import is_name
from ratesay.polynomials import coefficients, is_letter, is_polynomial, letters_of, names_of, partial


def is_ranking(value):
    """Whether any value is a ranking."""
    if type(value) is not tuple:
        return False
    seen = set()
    for block in value:
        if type(block) is not tuple or not block:
            return False
        for name in block:
            if not is_name(name) or name in seen:
                return False
            seen.add(name)
    return True


def places_of(ranking):
    """A dict from each name to the pair (- number of its block, - index in its block)."""
    found = {}
    for n, block in enumerate(ranking):
        for i, name in enumerate(block):
            found[name] = (-n, -i)
    return found


def key_of(places, v):
    """The key of a letter."""
    block, index = places[v[0]]
    return (block, v[1], index)


def check_names(names, ranking):
    """The places of the ranking; BadRanking if it is none, or lacks one of the names."""
    if not is_ranking(ranking):
        raise BadRanking()
    places = places_of(ranking)
    for name in names:
        if name not in places:
            raise BadRanking()
    return places


def checked_places(p, ranking):
    """The places of the ranking, when p and then the ranking have been looked at."""
    if not is_polynomial(p):
        raise BadPolynomial()
    return check_names(names_of(p), ranking)


def highest(p, places):
    """The highest letter of p, or None if it has none."""
    letters = letters_of(p)
    if not letters:
        return None
    return max([(key_of(places, v), v) for v in letters])[1]


def is_below(v, w, ranking):
    """Whether the letter v is below the letter w."""
    if not is_letter(v):
        raise BadLetter(v)
    if not is_letter(w):
        raise BadLetter(w)
    places = check_names((v[0], w[0]), ranking)
    return key_of(places, v) < key_of(places, w)


def leader(p, ranking):
    """The leader of p, or None if p has no letter."""
    return highest(p, checked_places(p, ranking))


def checked_leader(p, ranking):
    """The leader of p, when p and then the ranking have been looked at."""
    found = highest(p, checked_places(p, ranking))
    if found is None:
        raise NoLeader()
    return found


def leading_degree(p, ranking):
    """The degree of p in its leader."""
    v = checked_leader(p, ranking)
    return len(coefficients(p, v)) - 1


def initial(p, ranking):
    """The coefficient of the highest power of p's leader."""
    v = checked_leader(p, ranking)
    return coefficients(p, v)[-1]


def separant(p, ranking):
    """The partial derivative of p by its leader."""
    return partial(p, checked_leader(p, ranking))


def rank(p, ranking):
    """The pair (leader, leading degree)."""
    v = checked_leader(p, ranking)
    return (v, len(coefficients(p, v)) - 1)
