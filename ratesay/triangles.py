"""The equations of a general case: for each leader a least relation with lower letters."""

from ratesay.descents import descended
from ratesay.finders import MANY, SOME, Finder
from ratesay.irreducible import is_seen_irreducible, is_seen_least
from ratesay.leaders import leaders_of
from ratesay.models import names_in, system_of
from ratesay.polynomials import degree
from ratesay.rankings import highest, places_of
from ratesay.relations import PointSets

# What elimination may try at first, and where no relation is found.
QUICK = 1500000
SLOW = 30000000
# Equations of at most so many pairs need not be made less.
SHORT = 6
# Equations of so many pairs are looked for in other forms, too.
LONG = 40
LONGEST = 450
# The ways to choose equations.
LOWER = 0
EVEN = 1
KNOWN = 3


class Triangle:
    """The equations of a general case of a model: several ones for each leader, from which may be chosen."""

    def __init__(self, model, ranking):
        self.model = model
        self.ranking = ranking
        self.places = places_of(ranking)
        self.leaders = leaders_of(model, ranking)
        self.sets = PointSets(model)
        self.finder = Finder(model, self.sets, False)
        self.even = None
        self.found = {}
        self.firsts = {}
        self.merged = {}
        self.known = self.descent(self.places, QUICK)
        self.tried = self.known != {}

    def descent(self, places, most):
        """The dict from leaders to equations that elimination finds; {} if it finds none."""
        found = descended(self.model, places, system_of(self.model)[0], most)
        if found is None:
            return {}
        return {highest(p, places): p for p in found}

    def borrowed(self, v):
        """An equation of a leader that elimination finds for another ranking, with upper blocks as one, or None."""
        place = [n for n, block in enumerate(self.ranking) if v[0] in block][0]
        found = []
        for n in (place, place + 1):
            for p in self.merged_equations(n):
                if highest(p, self.places) == v:
                    found.append((degree(p, v), len(p), p))
        return min(found)[2] if found else None

    def merged_equations(self, n):
        """The list of the equations that elimination finds with the first n blocks as one."""
        if n not in self.merged:
            upper = [name for block in self.ranking[:n] for name in block]
            whole = (tuple([name for name in names_in(self.model) if name in upper]), *self.ranking[n:])
            if upper and whole != self.ranking:
                self.merged[n] = list(self.descent(places_of(whole), QUICK).values())
            else:
                self.merged[n] = []
        return self.merged[n]

    def concerned(self, at):
        """The pair of the lists of the free letters and of the leaders on which the leader of a place may hang."""
        lower = list(self.leaders[at][1])
        others = []
        size = -1
        while size < len(others):
            size = len(others)
            for w, free in self.leaders[:at]:
                if w not in others and [u for u in free if u in lower]:
                    others.append(w)
                    lower.extend([u for u in free if u not in lower])
        return (lower, others)

    def equation(self, at):
        """An equation of the leader of a place, of the least degree, or None."""
        if at not in self.found:
            self.found[at] = self.looked_for(at)
        return self.found[at]

    def looked_for(self, at):
        """An equation of the leader of a place, of the least degree, or None."""
        v = self.leaders[at][0]
        lower, others = self.concerned(at)
        p = self.known.get(v)
        if p is None:
            p = self.borrowed(v)
        if p is not None and (not others or degree(p, v) == 1):
            if len(p) <= SHORT and (others or is_seen_irreducible(p, v)):
                return p
            q = self.finder.least([*lower, *others], v, degree(p, v), min(MANY - 1, 40 + 2 * len(p)))
            if q is None or others and len(q) > len(p):
                return p
        else:
            q = self.least_relation(at, lower, others)
        if q is None:
            self.try_again()
            return self.known.get(v)
        # Where all lower letters are free, the first relation is the one that divides all others.
        self.firsts[at] = not others
        return q

    def least_relation(self, at, lower, others):
        """A relation of the leader of a place, of the least degree, with some letters; or None."""
        v = self.leaders[at][0]
        if not others:
            return self.finder.least(lower, v, None, MANY)
        p = self.finder.first_relation([*lower, *others, v])
        if p is not None and self.is_seen_least(at, p, others):
            return p
        return self.finder.relation(lower, others, v)

    def is_seen_least(self, at, p, others):
        """Whether no relation of the leader of a place with free letters and others is seen to have a lower degree."""
        v = self.leaders[at][0]
        if degree(p, v) == 1:
            return True
        lower = [(w, self.equation(k)) for k, (w, _) in enumerate(self.leaders[:at]) if w in others]
        return None not in [q for _, q in lower] and is_seen_least(p, v, lower)

    def is_least(self, at):
        """Whether the equation of the leader of a place is known to be the least one, if it is one."""
        return self.firsts.get(at, False)

    def try_again(self):
        """Lets elimination take longer, once."""
        if not self.tried:
            self.tried = True
            self.known = self.descent(self.places, SLOW)

    def lower_letters(self, at):
        """The letters on which the leader of a place may hang, without algebraic ones of upper blocks; or None."""
        v = self.leaders[at][0]
        lower, others = self.concerned(at)
        lowest = min([self.places[w[0]][0] for w in others], default=0)
        below = [w for w in others if self.places[w[0]][0] == lowest]
        return None if below == others or self.places[v[0]][0] == lowest else (lower, below)

    def lower_equation(self, at):
        """An equation of the leader of a place, without algebraic letters of upper blocks if that can be, or None."""
        p = self.equation(at)
        letters = self.lower_letters(at)
        if p is None or letters is None:
            return p
        v = self.leaders[at][0]
        lower, below = letters
        top = degree(p, v)
        first = self.finder.first_relation([*lower, *below, v])
        if first is not None and degree(first, v) > top and self.is_seen_least(at, first, below):
            return p
        q = self.finder.least([*lower, *below], v, top, SOME)
        return q if q is not None and degree(q, v) == top else p

    def even_equation(self, at):
        """An equation of the leader of a place, in the form in which several ones are likely to have one initial."""
        p = self.equation(at)
        lower, others = self.lower_letters(at) or self.concerned(at)
        v = self.leaders[at][0]
        if p is None or not others or degree(p, v) > 1:
            return p
        if self.even is None:
            self.even = Finder(self.model, self.sets, True)
        q = self.even.least([*lower, *others], v, 1, SOME)
        return p if q is None else q

    def choice(self, way):
        """The tuple of the equations of a general case, ascending, found in one of four ways; or None.

        The more promising ways go first.
        """
        found = []
        if way == EVEN and not self.is_even_promising():
            return None
        for at, (v, _) in enumerate(self.leaders):
            if way == LOWER:
                p = self.lower_equation(at)
            elif way == EVEN:
                p = self.even_equation(at)
            else:
                p = self.known.get(v) if way == KNOWN else self.equation(at)
            if p is None:
                return None
            found.append(p)
        return tuple(found)

    def is_even_promising(self):
        """Whether the longest equation found so far is neither so short nor so long that other forms are in vain."""
        sizes = [len(p) for p in list(self.found.values()) if p is not None]
        return LONG < max(sizes, default=0) <= LONGEST
