"""Conditions on functions, and unions of them."""

from ratesay.checks import check_polynomial, check_system
from ratesay.errors import BadCondition, BadUnion, TooGreat
from ratesay.forms import is_pair
from ratesay.planted import check_told, is_zero_at, table_of
from ratesay.polynomials import as_number, is_polynomial, primitive

TRUE = ((), ())
MOST_CONDITIONS = 200


def is_side(value):
    """Whether any value is an ascending tuple of primitive polynomials with letters, no one twice."""
    if type(value) is not tuple:
        return False
    last = None
    for p in value:
        if not is_polynomial(p) or as_number(p) is not None or primitive(p)[1] != p:
            return False
        if last is not None and not last < p:
            return False
        last = p
    return True


def is_condition(value):
    """Whether any value is a condition."""
    if not is_pair(value) or not is_side(value[0]) or not is_side(value[1]):
        return False
    others = {p: True for p in value[1]}
    for p in value[0]:
        if p in others:
            return False
    return True


def are_conditions(value):
    """Whether any value is a tuple of conditions, no one twice, of any number."""
    if type(value) is not tuple:
        return False
    seen = {}
    for condition in value:
        if not is_condition(condition) or condition in seen:
            return False
        seen[condition] = True
    return True


def is_union(value):
    """Whether any value is a union."""
    return are_conditions(value) and len(value) <= MOST_CONDITIONS


def check_union(value):
    """BadUnion if a value is no union, TooGreat if it just has too many conditions."""
    if not are_conditions(value):
        raise BadUnion()
    if len(value) > MOST_CONDITIONS:
        raise TooGreat("conditions")


def placed(side, p):
    """The side of a condition with a primitive polynomial in its place."""
    if p in side:
        return side
    return tuple(sorted([*side, p]))


def put_to(condition, p, zero):
    """The condition with p joined as 0, or as not 0; None if it never holds."""
    f = as_number(p)
    if f is not None:
        return condition if (p == ()) == zero else None
    q = primitive(p)[1]
    first, second = condition
    if zero:
        return None if q in second else (placed(first, q), second)
    return None if q in first else (first, placed(second, q))


def put(condition, p, zero):
    """The condition that holds where the given one does and p is 0 (zero True) or is not (zero False), or None."""
    if not is_condition(condition):
        raise BadCondition()
    check_polynomial(p)
    return put_to(condition, p, zero)


def single(p):
    """The union that holds exactly where p is 0."""
    check_polynomial(p)
    found = put_to(TRUE, p, True)
    return () if found is None else (found,)


class Gathering:
    """Conditions that are gathered, each once."""

    def __init__(self, conditions):
        self.rows = []
        self.seen = {}
        for condition in conditions:
            self.take(condition)

    def take(self, condition):
        """Adds a condition that is not there, unless it is None."""
        if condition is None or condition in self.seen:
            return
        if len(self.rows) == MOST_CONDITIONS:
            raise TooGreat("conditions")
        self.seen[condition] = True
        self.rows.append(condition)

    def whole(self):
        """The union of what was gathered, TRUE alone if that is in it."""
        return (TRUE,) if TRUE in self.seen else tuple(self.rows)


def either_of(first, second):
    """The union that holds where one of two unions does."""
    found = Gathering(first)
    for condition in second:
        found.take(condition)
    return found.whole()


def either(U, V):
    """The union that holds where one of two unions does."""
    check_union(U)
    check_union(V)
    return either_of(U, V)


def joined_conditions(condition, other):
    """The condition that holds where both do, or None."""
    found = condition
    for k, zero in ((0, True), (1, False)):
        for p in other[k]:
            found = put_to(found, p, zero)
            if found is None:
                return None
    return found


def both_of(first, second):
    """The union that holds where two unions do."""
    found = Gathering(())
    for condition in first:
        for other in second:
            found.take(joined_conditions(condition, other))
    return found.whole()


def both(U, V):
    """The union that holds where two unions do."""
    check_union(U)
    check_union(V)
    return both_of(U, V)


def without_one(rows, condition):
    """The conditions that hold where one of some conditions does and another condition does not."""
    members = [(p, True) for p in condition[0]] + [(p, False) for p in condition[1]]
    found = Gathering(())
    for row in rows:
        c = row
        for p, zero in members:
            found.take(put_to(c, p, not zero))
            c = put_to(c, p, zero)
            if c is None:
                break
    return found.rows


def without_of(union):
    """The union that holds where another one does not."""
    rows = [TRUE]
    for condition in union:
        rows = without_one(rows, condition)
    return (TRUE,) if TRUE in rows else tuple(rows)


def without(U):
    """The union that holds where another one does not."""
    check_union(U)
    return without_of(U)


def of_system(system):
    """The union that holds at the solutions of a system."""
    found = joined_conditions(TRUE, system)
    return () if found is None else (found,)


def union_of_system(system):
    """The union that holds at the solutions of a system."""
    check_system(system)
    return of_system(system)


def holds_at(condition, table):
    """Whether a condition holds at functions of the time."""
    for p in condition[0]:
        if not is_zero_at(p, table):
            return False
    for p in condition[1]:
        if is_zero_at(p, table):
            return False
    return True


def true_at(union, functions):
    """Whether a union holds at functions of the time."""
    check_union(union)
    table = table_of(functions)
    for first, second in union:
        check_told([*first, *second], table)
    for condition in union:
        if holds_at(condition, table):
            return True
    return False
