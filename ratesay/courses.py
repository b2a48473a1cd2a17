"""Series of polynomials along values of their letters, and the rates that equations tell."""

from math import factorial

from ratesay.polynomials import letters_of, plus, scaled
from ratesay.tower_numbers import product, product_sum


class Course:
    """The coefficients, at the powers of t, of a polynomial along values.

    values is a dict from names to lists of numbers of a tower: the value of the k-th rate stands at k.
    What is above a list, but below its limit, counts as 0.
    """

    def __init__(self, p, tower, values):
        self.p = p
        self.tower = tower
        self.told = values
        self.rows = [[v for v, e in monomial for _ in range(e)] for monomial, _ in p]
        self.products = [[[] for _ in row] for row in self.rows]

    def letter_part(self, v, k):
        """The coefficient of t to the power k of a letter along the values."""
        numbers = self.told[v[0]]
        at = v[1] + k
        if at >= len(numbers) or not numbers[at]:
            return ()
        return scaled(numbers[at], (1, factorial(k)))

    def part(self, j):
        """The coefficient of t to the power j, with the values as they are now; those below must have been kept."""
        found = ()
        for k, (_, f) in enumerate(self.p):
            if self.rows[k]:
                found = plus(found, scaled(self.last_part(k, j), f))
            elif j == 0:
                found = plus(found, (((), f),))
        return found

    def last_part(self, k, j):
        """The coefficient of t to the power j of the product of the letters of the k-th monomial."""
        row = self.rows[k]
        found = self.letter_part(row[0], j)
        for at in range(1, len(row)):
            pairs = [(found, self.letter_part(row[at], 0))]
            below = self.products[k][at - 1]
            for i in range(j):
                pairs.append((below[i], self.letter_part(row[at], j - i)))
            found = self.total(pairs)
        return found

    def total(self, pairs):
        """The number that a sum of products comes to."""
        return product_sum(self.tower, [pair for pair in pairs if pair[0] and pair[1]])

    def keep(self, j):
        """Keeps the coefficients at t to the power j, which must not change any more."""
        for k, row in enumerate(self.rows):
            found = ()
            for at, v in enumerate(row):
                if at == 0:
                    found = self.letter_part(v, j)
                else:
                    below = self.products[k][at - 1]
                    # The list of the row before has just got its coefficient at j.
                    found = self.total([(below[i], self.letter_part(v, j - i)) for i in range(j + 1)])
                self.products[k][at].append(found)


def value_of(p, tower, values):
    """The number that p comes to; values is a dict from names to lists of numbers."""
    return Course(p, tower, values).part(0)


def parts_along(p, tower, values, n):
    """The list of the coefficients of p along values at t to the powers from 0 to n."""
    course = Course(p, tower, values)
    found = []
    for j in range(n + 1):
        found.append(course.part(j))
        course.keep(j)
    return found


def highest_orders(p):
    """The dict from the names of p to their highest orders in it."""
    found = {}
    for name, k in letters_of(p):
        found[name] = max(k, found.get(name, 0))
    return found


def raise_lengths(table, members):
    """Raises lengths until the rates of each leader are told by what has lengths; members is a list of Members."""
    changed = True
    while changed:
        changed = False
        for member in members:
            name, order = member.leader
            spare = table[name] - order
            for other, e in highest_orders(member.p).items():
                if table[other] < e + spare:
                    table[other] = e + spare
                    changed = True


def extend(members, turns, tower, values, table, places):
    """Puts behind the lists of values the rates up to the lengths of the table.

    turns has the inverse of the separant's value for each member; free rates that are not told are 0.
    """
    courses = {}
    for k, member in enumerate(members):
        course = Course(member.p, tower, values)
        courses[member.leader[0]] = (course, member.leader[1], turns[k])
    waiting = []
    for name in values:
        for k in range(len(values[name]), table[name] + 1):
            block, index = places[name]
            waiting.append(((block, k, index), name))
    kept = {name: 0 for name in courses}
    for (_, k, _), name in sorted(waiting):
        if name not in courses:
            values[name].append(())
            continue
        course, order, turn = courses[name]
        j = k - order
        while kept[name] < j:
            course.keep(kept[name])
            kept[name] += 1
        part = scaled(course.part(j), (-factorial(j), 1))
        values[name].append(product(tower, part, turn))
