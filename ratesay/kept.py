"""What stays the same along explicit equations: kept polynomials, sets and fractions."""

from ratesay.errors import BadPolynomial, TooGreat
from ratesay.explicits import along, check_explicit, check_own, check_to, names_in
from ratesay.fractions_kept import fraction_paper, is_kept_quotient, is_none_paper, is_some_paper, kept_base
from ratesay.keeping import is_kept_paper, is_left_paper, kept_paper
from ratesay.monomials import count_to
from ratesay.polynomials import as_number
from ratesay.timed import are_own

MOST_DEGREE = 8
MOST_MONOMIALS = 84
MOST_COLUMNS = 6
MOST_MEMBERS = 4


def check_monomials(g, n, most):
    """TooGreat if there are more monomials of degree at most n than a bound."""
    if count_to(len(g), n) > most:
        raise TooGreat("monomials")


def kept(g, n):
    """The told base of the kept polynomials of degree at most n."""
    check_explicit(g)
    check_to(n, 0, MOST_DEGREE)
    check_monomials(g, n, MOST_MONOMIALS)
    return kept_base(g, (), n)


def kept_with(g, l, n):
    """The told base of the polynomials of degree at most n whose rate is l times them."""
    check_explicit(g)
    check_own(g, l)
    check_to(n, 0, MOST_DEGREE)
    check_monomials(g, n, MOST_MONOMIALS)
    return kept_base(g, l, n)


def is_kept(g, f):
    """Whether an own polynomial is kept."""
    check_explicit(g)
    check_own(g, f)
    return not along(g, f)


def is_kept_fraction(g, p, q):
    """Whether p / q is kept."""
    check_explicit(g)
    check_own(g, p)
    check_own(g, q)
    if not q:
        raise BadPolynomial()
    return is_kept_quotient(g, p, q)


def check_members(g, ps):
    """BadPolynomial if a value is no tuple of 1 to 4 own polynomials that are no numbers."""
    if not are_own(names_in(g), ps) or not 1 <= len(ps) <= MOST_MEMBERS:
        raise BadPolynomial()
    for p in ps:
        if as_number(p) is not None:
            raise BadPolynomial()


def kept_set(g, ps):
    """A paper whether the set where all ps are 0 is kept."""
    check_explicit(g)
    check_members(g, ps)
    return kept_paper(g, ps)


def is_kept_set(g, ps, answer):
    """Whether any value is a paper whether the set where all ps are 0 is kept."""
    check_explicit(g)
    check_members(g, ps)
    if type(answer) is not tuple or not answer or type(answer[0]) is not str:
        return False
    if answer[0] == "kept" and len(answer) == 4:
        return is_kept_paper(g, ps, answer[1], answer[2], answer[3])
    return answer[0] == "left" and len(answer) == 6 and is_left_paper(g, ps, answer[1:])


def kept_fraction(g, n):
    """A paper whether there is a kept fraction of degree at most n that is no number."""
    check_explicit(g)
    check_to(n, 1, MOST_DEGREE)
    check_monomials(g, n, MOST_COLUMNS)
    return fraction_paper(g, n)


def is_fraction_paper(g, n, answer):
    """Whether any value is a paper whether there is a kept fraction of degree at most n that is no number."""
    check_explicit(g)
    check_to(n, 1, MOST_DEGREE)
    check_monomials(g, n, MOST_COLUMNS)
    if type(answer) is not tuple or not answer or type(answer[0]) is not str:
        return False
    if answer[0] == "none" and len(answer) == 2:
        return is_none_paper(g, n, answer[1])
    return answer[0] == "some" and len(answer) == 3 and is_some_paper(g, answer[1], answer[2])
