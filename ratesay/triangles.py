"""The equations of a general case: for each leader a least relation with lower letters."""

from ratesay.descents import descended
from ratesay.errors import TooMany
from ratesay.fibers import first_fiber, is_fixable, is_given, relation_by_fibers
from ratesay.gradings import Grading
from ratesay.leaders import leaders_of
from ratesay.irreducible import is_seen_irreducible, is_seen_least
from ratesay.models import names_in, system_of
from ratesay.polynomials import degree
from ratesay.rankings import highest, places_of
from ratesay.relations import COARSE, PointSets, Search, written
from ratesay.rows import divided, trimmed
from ratesay.samples import prime_for
from ratesay.weights import Line

# Relations with more monomials than these are not looked for.
FEW = 200
SOME = 420
MANY = 850
# Relations with more monomials are looked for at fixed values of some letters first.
LOW = 160
MOST_IN_FIBERS = (200, 100, 60)
# Relations with so many monomials are found at once.
QUICK_LOOK = 40
# So many further relations tell whether the first one is of the least degree.
FURTHER = 3
# What elimination may try at first, and where no relation is found.
QUICK = 1500000
SLOW = 30000000
# Equations of at most so many pairs need not be made less.
SHORT = 6


class Finder:
    """Finds the relations of one model."""

    def __init__(self, model):
        self.model = model
        self.sets = PointSets(model)
        self.points = self.sets.points(prime_for(model, COARSE))
        self.line = Line(model, 9)
        self.weights = {}
        self.grading = Grading(model)

    def weight(self, v):
        """What a letter weighs."""
        if v not in self.weights:
            self.weights[v] = max(1, self.line.degree(v))
        return self.weights[v]

    def search(self, letters, top):
        """The search for relations of the last one of some letters, of degrees up to top, None for any."""
        weights = {v: self.weight(v) for v in letters}
        return Search(self.points, letters, weights, {v: self.grading.grade(v) for v in letters}, top)

    def polynomial(self, letters, relation):
        """The polynomial of a relation, or None."""
        return None if relation is None else written(self.sets, letters, relation, self.points.p)

    def least(self, lower, v, top, most):
        """A least relation of v, of a degree up to top, with lower letters, or None."""
        letters = [*lower, v]
        relation = self.search(letters, top).next(LOW if most == MANY else most)
        if relation is None:
            found = self.least_by_fibers(letters, top)
            if found is not None:
                return found
            if most == MANY:
                relation = self.search(letters, top).next(most)
        return self.polynomial(letters, relation)

    def least_by_fibers(self, letters, top):
        """A relation of the last one of some letters, found at fixed values of others, or None."""
        for fixed in self.choices_to_fix(letters[:-1]):
            rest = [v for v in letters if v not in fixed]
            try:
                fiber = first_fiber(self.model, self.points.p, fixed)
                search = Search(fiber, rest, {v: self.weight(v) for v in rest}, {v: () for v in rest}, top)
                first = search.next(MOST_IN_FIBERS[len(fixed) - 1])
                if first is not None:
                    found = relation_by_fibers(self.model, letters, fixed, list(first))
                    return found if found is not None and self.sets.checked(found) else None
            except TooMany:
                # Other letters may be fixed all the same.
                pass
        return None

    def choices_to_fix(self, letters):
        """Tuples of letters that may be fixed: more and more of them, those of outputs last."""
        given = sorted([(-self.weight(v), v) for v in letters if is_given(self.model, v)])
        others = [v for v in letters if is_fixable(self.model, v) and not is_given(self.model, v)]
        last = [v for _, v in sorted([(-self.weight(v), v) for v in others])[:1]]
        found = [tuple(last)]
        for k in range(len(given)):
            found.append((*[v for _, v in given[:k + 1]], *last))
        return [fixed for fixed in found if fixed and len(fixed) < len(letters)][:len(MOST_IN_FIBERS)]

    def first_relation(self, letters):
        """The polynomial of the first relation of the last one of some letters, if it is a short one, or None."""
        return self.polynomial(letters, self.search(letters, None).next(QUICK_LOOK))

    def relation(self, lower, others, v):
        """A relation of least degree of v with free lower letters and algebraic ones, or None."""
        letters = [*lower, *others]
        found = self.least(letters, v, 1, FEW)
        if found is not None:
            return found
        top, first = self.least_degree([*letters, v])
        if first is not None:
            return self.polynomial([*letters, v], first)
        return self.least(letters, v, top, SOME)

    def least_degree(self, letters):
        """The pair of the least degree of a relation, and the first one if it has that degree."""
        search = self.search(letters, None)
        first = search.next(SOME)
        if first is None:
            return (1, None)
        top = degree_in(first)
        row = self.at_point(letters, first)
        for _ in range(FURTHER):
            further = search.next(SOME)
            if further is None or len(row) < 3:
                break
            row = common_row(row, self.at_point(letters, further), self.points.p)
        least = len(row) - 1
        return (least, first if top == least else None)

    def at_point(self, letters, relation):
        """The coefficients of a relation by its letter at one point."""
        p = self.points.p
        found = [0 for _ in range(degree_in(relation) + 1)]
        for monomial, n in relation.items():
            for w, e in zip(letters[:-1], monomial):
                for _ in range(e):
                    n = n * self.points.worth(0, w) % p
            found[monomial[-1]] = (found[monomial[-1]] + n) % p
        return trimmed(found)


def degree_in(relation):
    """The degree of a relation in the last letter."""
    return max([monomial[-1] for monomial in relation])


def common_row(a, b, p):
    """The greatest common divisor of two lists of coefficients."""
    while b:
        a, b = b, divided(a, b, p)[1]
    return a


class Triangle:
    """The equations of a general case of a model: several ones for each leader, from which may be chosen."""

    def __init__(self, model, ranking):
        self.model = model
        self.ranking = ranking
        self.places = places_of(ranking)
        self.leaders = leaders_of(model, ranking)
        self.finder = Finder(model)
        self.found = {}
        self.firsts = {}
        self.merged = {}
        self.known = self.descent(self.places, QUICK)
        self.tried = self.known != {}

    def descent(self, places, most):
        """The dict from leaders to equations that elimination finds; {} if it finds none."""
        found = descended(self.model, places, system_of(self.model)[0], most)
        if found is None:
            return {}
        return {highest(p, places): p for p in found}

    def borrowed(self, v):
        """An equation of a leader that elimination finds for another ranking, with upper blocks as one, or None."""
        place = [n for n, block in enumerate(self.ranking) if v[0] in block][0]
        found = []
        for n in (place, place + 1):
            for p in self.merged_equations(n):
                if highest(p, self.places) == v:
                    found.append((degree(p, v), len(p), p))
        return min(found)[2] if found else None

    def merged_equations(self, n):
        """The list of the equations that elimination finds with the first n blocks as one."""
        if n not in self.merged:
            upper = [name for block in self.ranking[:n] for name in block]
            whole = (tuple([name for name in names_in(self.model) if name in upper]), *self.ranking[n:])
            if upper and whole != self.ranking:
                self.merged[n] = list(self.descent(places_of(whole), QUICK).values())
            else:
                self.merged[n] = []
        return self.merged[n]

    def concerned(self, at):
        """The pair of the lists of the free letters and of the leaders on which the leader of a place may hang."""
        lower = list(self.leaders[at][1])
        others = []
        size = -1
        while size < len(others):
            size = len(others)
            for w, free in self.leaders[:at]:
                if w not in others and [u for u in free if u in lower]:
                    others.append(w)
                    lower.extend([u for u in free if u not in lower])
        return (lower, others)

    def equation(self, at):
        """An equation of the leader of a place, of the least degree, or None."""
        if at not in self.found:
            self.found[at] = self.looked_for(at)
        return self.found[at]

    def looked_for(self, at):
        """An equation of the leader of a place, of the least degree, or None."""
        v = self.leaders[at][0]
        lower, others = self.concerned(at)
        p = self.known.get(v)
        if p is None:
            p = self.borrowed(v)
        if p is not None and (not others or degree(p, v) == 1):
            if len(p) <= SHORT and (others or is_seen_irreducible(p, v)):
                return p
            q = self.finder.least([*lower, *others], v, degree(p, v), min(MANY - 1, 40 + 2 * len(p)))
            if q is None or others and len(q) > len(p):
                return p
        else:
            q = self.least_relation(at, lower, others)
        if q is None:
            self.try_again()
            return self.known.get(v)
        # Where all lower letters are free, the first relation is the one that divides all others.
        self.firsts[at] = not others
        return q

    def least_relation(self, at, lower, others):
        """A relation of the leader of a place, of the least degree, with some letters; or None."""
        v = self.leaders[at][0]
        if not others:
            return self.finder.least(lower, v, None, MANY)
        p = self.finder.first_relation([*lower, *others, v])
        if p is not None and self.is_seen_least(at, p, others):
            return p
        return self.finder.relation(lower, others, v)

    def is_seen_least(self, at, p, others):
        """Whether no relation of the leader of a place with free letters and others is seen to have a lower degree."""
        v = self.leaders[at][0]
        if degree(p, v) == 1:
            return True
        lower = [(w, self.equation(k)) for k, (w, _) in enumerate(self.leaders[:at]) if w in others]
        return None not in [q for _, q in lower] and is_seen_least(p, v, lower)

    def is_least(self, at):
        """Whether the equation of the leader of a place is known to be the least one, if it is one."""
        return self.firsts.get(at, False)

    def try_again(self):
        """Lets elimination take longer, once."""
        if not self.tried:
            self.tried = True
            self.known = self.descent(self.places, SLOW)

    def lower_equation(self, at):
        """An equation of the leader of a place, without algebraic letters of upper blocks if that can be, or None."""
        p = self.equation(at)
        if p is None:
            return None
        v = self.leaders[at][0]
        lower, others = self.concerned(at)
        lowest = min([self.places[w[0]][0] for w in others], default=0)
        below = [w for w in others if self.places[w[0]][0] == lowest]
        if below == others or self.places[v[0]][0] == lowest:
            return p
        top = degree(p, v)
        first = self.finder.first_relation([*lower, *below, v])
        if first is not None and degree(first, v) > top and self.is_seen_least(at, first, below):
            return p
        q = self.finder.least([*lower, *below], v, top, SOME)
        return q if q is not None and degree(q, v) == top else p

    def choice(self, way):
        """The tuple of the equations of a general case, ascending, found in one of three ways; or None.

        The more promising ways go first.
        """
        found = []
        for at, (v, _) in enumerate(self.leaders):
            if way == 0:
                p = self.lower_equation(at)
            else:
                p = self.equation(at) if way == 1 else self.known.get(v)
            if p is None:
                return None
            found.append(p)
        return tuple(found)
