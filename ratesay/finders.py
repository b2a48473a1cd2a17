"""Finding relations between letters of a model: plainly by their values, or at fixed values of some letters."""

from ratesay.errors import TooMany
from ratesay.fibers import first_fiber, is_fixable, is_given, relation_by_fibers
from ratesay.gradings import Grading
from ratesay.relations import COARSE, Search, written
from ratesay.rows import divided, trimmed
from ratesay.samples import prime_for
from ratesay.weights import Line

# Relations with more monomials than these are not looked for.
FEW = 200
SOME = 420
MANY = 850
# Relations with more monomials are looked for at fixed values of some letters first.
LOW = 160
MOST_IN_FIBERS = (200, 100, 60)
# Relations with so many monomials are found at once.
QUICK_LOOK = 40
# So many further relations tell whether the first one is of the least degree.
FURTHER = 3


class Finder:
    """Finds the relations of one model.

    Letters weigh what their degrees are, or, if it is even, those of higher orders a little more than others.
    """

    def __init__(self, model, sets, is_even):
        self.model = model
        self.sets = sets
        self.is_even = is_even
        self.points = sets.points(prime_for(model, COARSE))
        self.line = Line(model, 9)
        self.weights = {}
        self.grading = Grading(model)

    def weight(self, v):
        """What a letter weighs."""
        if self.is_even:
            return v[1] + 2 if v[0] in [y for y, _ in self.model[3]] else v[1] + 1
        if v not in self.weights:
            self.weights[v] = max(1, self.line.degree(v))
        return self.weights[v]

    def search(self, letters, top):
        """The search for relations of the last one of some letters, of degrees up to top, None for any."""
        weights = {v: self.weight(v) for v in letters}
        return Search(self.points, letters, weights, {v: self.grading.grade(v) for v in letters}, top)

    def polynomial(self, letters, relation):
        """The polynomial of a relation, or None."""
        return None if relation is None else written(self.sets, letters, relation, self.points.p)

    def least(self, lower, v, top, most):
        """A least relation of v, of a degree up to top, with lower letters, or None."""
        letters = [*lower, v]
        relation = self.search(letters, top).next(LOW if most == MANY else most)
        if relation is None:
            found = self.least_by_fibers(letters, top)
            if found is not None:
                return found
            if most == MANY:
                relation = self.search(letters, top).next(most)
        return self.polynomial(letters, relation)

    def least_by_fibers(self, letters, top):
        """A relation of the last one of some letters, found at fixed values of others, or None."""
        for fixed in self.choices_to_fix(letters[:-1]):
            rest = [v for v in letters if v not in fixed]
            try:
                fiber = first_fiber(self.model, self.points.p, fixed)
                search = Search(fiber, rest, {v: self.weight(v) for v in rest}, {v: () for v in rest}, top)
                first = search.next(MOST_IN_FIBERS[len(fixed) - 1])
                if first is not None:
                    found = relation_by_fibers(self.model, letters, fixed, list(first))
                    return found if found is not None and self.sets.checked(found) else None
            except TooMany:
                # Other letters may be fixed all the same.
                pass
        return None

    def choices_to_fix(self, letters):
        """Tuples of letters that may be fixed: more and more of them, those of outputs last."""
        given = sorted([(-self.weight(v), v) for v in letters if is_given(self.model, v)])
        others = [v for v in letters if is_fixable(self.model, v) and not is_given(self.model, v)]
        last = [v for _, v in sorted([(-self.weight(v), v) for v in others])[:1]]
        found = [tuple(last)]
        for k in range(len(given)):
            found.append((*[v for _, v in given[:k + 1]], *last))
        return [fixed for fixed in found if fixed and len(fixed) < len(letters)][:len(MOST_IN_FIBERS)]

    def first_relation(self, letters):
        """The polynomial of the first relation of the last one of some letters, if it is a short one, or None."""
        return self.polynomial(letters, self.search(letters, None).next(QUICK_LOOK))

    def relation(self, lower, others, v):
        """A relation of least degree of v with free lower letters and algebraic ones, or None."""
        letters = [*lower, *others]
        found = self.least(letters, v, 1, FEW)
        if found is not None:
            return found
        top, first = self.least_degree([*letters, v])
        if first is not None:
            return self.polynomial([*letters, v], first)
        return self.least(letters, v, top, SOME)

    def least_degree(self, letters):
        """The pair of the least degree of a relation, and the first one if it has that degree."""
        search = self.search(letters, None)
        first = search.next(SOME)
        if first is None:
            return (1, None)
        top = degree_in(first)
        row = self.at_point(letters, first)
        for _ in range(FURTHER):
            further = search.next(SOME)
            if further is None or len(row) < 3:
                break
            row = common_row(row, self.at_point(letters, further), self.points.p)
        least = len(row) - 1
        return (least, first if top == least else None)

    def at_point(self, letters, relation):
        """The coefficients of a relation by its letter at one point."""
        p = self.points.p
        found = [0 for _ in range(degree_in(relation) + 1)]
        for monomial, n in relation.items():
            for w, e in zip(letters[:-1], monomial):
                for _ in range(e):
                    n = n * self.points.worth(0, w) % p
            found[monomial[-1]] = (found[monomial[-1]] + n) % p
        return trimmed(found)


def degree_in(relation):
    """The degree of a relation in the last letter."""
    return max([monomial[-1] for monomial in relation])


def common_row(a, b, p):
    """The greatest common divisor of two lists of coefficients."""
    while b:
        a, b = b, divided(a, b, p)[1]
    return a
