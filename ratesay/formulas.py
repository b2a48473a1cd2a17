"""Sentences about functions: conditions that say the same, and which are true."""

from ratesay.conditions import TRUE, both_of, either_of, of_system, put_to, without_of
from ratesay.errors import BadFormula, BadName, BadPaper, TooGreat
from ratesay.finding import cases_of
from ratesay.forms import is_name
from ratesay.polynomials import is_polynomial, names_of
from ratesay.remains import has_name, lower_part, told_cases, two_blocks
from ratesay.simple import case_names

MOST_PARTS = 60
MOST_DEPTH = 20
MOST_QUANTIFIERS = 4
# The formulas within a formula stand at these places.
INNER = {"zero": (), "not": (1,), "and": (1, 2), "or": (1, 2), "some": (2,), "all": (2,)}
LENGTHS = {"zero": 2, "not": 2, "and": 3, "or": 3, "some": 3, "all": 3}


def sizes_of(value):
    """The triple (parts, depth, quantifiers) of any value that is a formula but for its bounds; None for others."""
    if type(value) is not tuple or not value or type(value[0]) is not str or value[0] not in INNER:
        return None
    word = value[0]
    if len(value) != LENGTHS[word]:
        return None
    if word == "zero":
        return (1, 1, 0) if is_polynomial(value[1]) else None
    bound = word == "some" or word == "all"
    if bound and not is_name(value[1]):
        return None
    parts, depth, quantifiers = 1, 0, 1 if bound else 0
    for at in INNER[word]:
        sizes = sizes_of(value[at])
        if sizes is None:
            return None
        parts += sizes[0]
        depth = max(depth, sizes[1])
        quantifiers += sizes[2]
    return (parts, depth + 1, quantifiers)


def is_formula(value):
    """Whether any value is a formula."""
    sizes = sizes_of(value)
    if sizes is None:
        return False
    return sizes[0] <= MOST_PARTS and sizes[1] <= MOST_DEPTH and sizes[2] <= MOST_QUANTIFIERS


def check_formula(value):
    """BadFormula if a value is no formula; TooGreat if it just passes a bound."""
    sizes = sizes_of(value)
    if sizes is None:
        raise BadFormula()
    if sizes[0] > MOST_PARTS:
        raise TooGreat("parts")
    if sizes[1] > MOST_DEPTH:
        raise TooGreat("depth")
    if sizes[2] > MOST_QUANTIFIERS:
        raise TooGreat("quantifiers")


def note_free(formula, bound, found):
    """Adds the names that are free in a formula, and not among the bound ones, to a dict."""
    word = formula[0]
    if word == "zero":
        for name in names_of(formula[1]):
            if name not in bound:
                found[name] = True
        return
    inner = (*bound, formula[1]) if word == "some" or word == "all" else bound
    for at in INNER[word]:
        note_free(formula[at], inner, found)


def free_names(F):
    """The free names of a formula, ascending."""
    check_formula(F)
    found = {}
    note_free(F, (), found)
    return tuple(sorted(found))


def single_of(p):
    """The union that holds exactly where p is 0."""
    found = put_to(TRUE, p, True)
    return () if found is None else (found,)


def stands_in(name, condition):
    """Whether a name stands in a condition."""
    for p in [*condition[0], *condition[1]]:
        if has_name(p, (name,)):
            return True
    return False


def joined_unions(word, first, second):
    """The union of "and" or "or" of two unions."""
    return both_of(first, second) if word == "and" else either_of(first, second)


def check_length(paper, length):
    """BadPaper if a value is no tuple of a length."""
    if type(paper) is not tuple or len(paper) != length:
        raise BadPaper()


def told_union(formula, paper):
    """The union that any value as a paper tells of a formula."""
    word = formula[0]
    if word == "zero":
        check_length(paper, 0)
        return single_of(formula[1])
    check_length(paper, 1 if word == "not" else 2)
    first = told_union(formula[INNER[word][0]], paper[0])
    if word == "not":
        return without_of(first)
    if word == "and" or word == "or":
        return joined_unions(word, first, told_union(formula[2], paper[1]))
    if word == "some":
        return without_name(formula[1], first, paper[1])
    return without_of(without_name(formula[1], without_of(first), paper[1]))


def without_name(name, union, entries):
    """What remains of a union without a name, when any value as entries has papers of cases."""
    if type(entries) is not tuple:
        raise BadPaper()
    found = ()
    at = 0
    for condition in union:
        if not stands_in(name, condition):
            found = either_of(found, (condition,))
            continue
        if at == len(entries):
            raise BadPaper()
        cases = told_cases(condition, two_blocks((name,), case_names(condition)), entries[at])
        if cases is None:
            raise BadPaper()
        at += 1
        found = with_parts(found, cases, name)
    if at < len(entries):
        raise BadPaper()
    return found


def with_parts(union, cases, name):
    """The union, and behind it the lower parts of cases without a name."""
    found = union
    for case in cases:
        found = either_of(found, of_system(lower_part(case, (name,))))
    return found


def union_of(F, paper):
    """The union that holds where a formula is true, as a paper shows."""
    check_formula(F)
    return told_union(F, paper)


def eliminated(formula):
    """The pair (union, paper) of a formula."""
    word = formula[0]
    if word == "zero":
        return (single_of(formula[1]), ())
    first, paper = eliminated(formula[INNER[word][0]])
    if word == "not":
        return (without_of(first), (paper,))
    if word == "and" or word == "or":
        second, other = eliminated(formula[2])
        return (joined_unions(word, first, second), (paper, other))
    if word == "some":
        found, entries = eliminated_name(formula[1], first)
        return (found, (paper, entries))
    found, entries = eliminated_name(formula[1], without_of(first))
    return (without_of(found), (paper, entries))


def eliminated_name(name, union):
    """The pair (union, entries) of what remains of a union without a name."""
    found = ()
    entries = []
    for condition in union:
        if stands_in(name, condition):
            cases, entry = cases_of(condition, two_blocks((name,), case_names(condition)))
            entries.append(entry)
            found = with_parts(found, cases, name)
        else:
            found = either_of(found, (condition,))
    return (found, tuple(entries))


def eliminate(F):
    """The pair (union, paper): the union holds where a formula is true, as the paper shows."""
    check_formula(F)
    return eliminated(F)


def check_sentence(formula):
    """BadName, behind what check_formula raises, if a formula has free names."""
    names = free_names(formula)
    if names:
        raise BadName(names[0])


def decide(F):
    """The pair (answer, paper): whether a sentence is true, and the paper that shows it."""
    check_sentence(F)
    union, paper = eliminated(F)
    return (union == (TRUE,), paper)


def is_decision(F, answer, paper):
    """Whether answer is True or False itself, and a paper tells it of a sentence."""
    check_sentence(F)
    if answer is not True and answer is not False:
        return False
    try:
        union = told_union(F, paper)
    except (BadPaper, TooGreat):
        return False
    return union == ((TRUE,) if answer else ())
