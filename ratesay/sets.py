"""Unions as sets of functions: parts that exclude each other, empty or not, within, equal."""

from ratesay.conditions import TRUE, both_of, is_union, without_of, without_one
from ratesay.errors import BadUnion, TooMany
from ratesay.following import answer_about
from ratesay.forms import is_count, is_pair
from ratesay.polynomials import UNIT
from ratesay.rankings import places_of
from ratesay.refusals import is_refusal
from ratesay.simple import case_names
from ratesay.trees import is_shown


def check_set(value):
    """BadUnion if a value is no union."""
    if not is_union(value):
        raise BadUnion()


def exclusive(U):
    """Conditions that exclude each other, of which one holds exactly where the union does."""
    check_set(U)
    return excluding(U)


def excluding(union):
    """Conditions that exclude each other, of which one holds exactly where the union does."""
    rows = [TRUE]
    found = []
    for k, condition in enumerate(union):
        if k:
            rows = without_one(rows, union[k - 1])
        rest = (TRUE,) if TRUE in rows else tuple(rows)
        found.extend(both_of((condition,), rest))
    return tuple(found)


def one_block(condition):
    """The ranking of one block of the names of a condition, ascending."""
    names = tuple(case_names(condition))
    return (names,) if names else ()


def paper_of(union):
    """A paper that a union is empty, or holds somewhere."""
    trees = []
    given_up = False
    for k, condition in enumerate(union):
        if condition == TRUE:
            return ("held", k, None)
        try:
            word, found = answer_about(condition, UNIT, places_of(one_block(condition)))
        except TooMany:
            # A later condition may show that the union is not empty.
            given_up = True
            continue
        if word == "no":
            return ("held", k, found)
        trees.append(found)
    if given_up:
        raise TooMany()
    return ("empty", tuple(trees))


def is_paper(union, value):
    """Whether any value is a paper that a union is empty, or holds somewhere."""
    if type(value) is not tuple or not value or type(value[0]) is not str:
        return False
    if value[0] == "empty" and len(value) == 2:
        return are_refutations(union, value[1])
    if value[0] != "held" or len(value) != 3 or not is_count(value[1], 0) or value[1] >= len(union):
        return False
    condition = union[value[1]]
    if condition == TRUE:
        return value[2] is None
    return is_refusal(condition, UNIT, one_block(condition), value[2])


def are_refutations(union, trees):
    """Whether any value has a tree for each condition that shows that it never holds."""
    if type(trees) is not tuple or len(trees) != len(union):
        return False
    for condition, tree in zip(union, trees):
        if not is_shown(condition, UNIT, tree):
            return False
    return True


def emptiness(U):
    """A paper that a union is empty, or holds somewhere."""
    check_set(U)
    return paper_of(U)


def is_emptiness(U, paper):
    """Whether any value is a paper that a union is empty, or holds somewhere."""
    check_set(U)
    return is_paper(U, paper)


def outside(first, second):
    """The union that holds where the first one does and the second one does not."""
    return both_of(first, without_of(second))


def containment(U, V):
    """A paper whether U is within V."""
    check_set(U)
    check_set(V)
    return paper_of(outside(U, V))


def is_containment(U, V, paper):
    """Whether any value is a paper whether U is within V."""
    check_set(U)
    check_set(V)
    return is_paper(outside(U, V), paper)


def sameness(U, V):
    """The pair of the papers whether U is within V, and V within U."""
    return (containment(U, V), containment(V, U))


def is_sameness(U, V, pair):
    """Whether any value is the pair of papers whether U is within V, and V within U."""
    check_set(U)
    check_set(V)
    first, second = outside(U, V), outside(V, U)
    return is_pair(pair) and is_paper(first, pair[0]) and is_paper(second, pair[1])


def is_within(U, V):
    """Whether V holds wherever U does."""
    return containment(U, V)[0] == "empty"


def is_equal(U, V):
    """Whether U and V hold at the same functions."""
    return is_within(U, V) and is_within(V, U)
