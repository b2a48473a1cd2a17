"""How the names of a model and the time may be scaled: relations hold part by part of one weight."""

from ratesay.linear import integer_row, kernel


class Grading:
    """The weights of letters by each way to scale a model."""

    def __init__(self, model):
        states, parameters, inputs, outputs, quantities = model
        told = [*states, *outputs, *quantities]
        names = [*[x for x, _ in told], *parameters, *inputs]
        self.columns = {name: k for k, name in enumerate(names)}
        self.time = len(names)
        rows = []
        for name, (n, d) in told:
            rows.extend(self.even_rows(n))
            rows.extend(self.even_rows(d))
            if n:
                rows.append(self.rate_row(name, n, d, name in [x for x, _ in states]))
        found = kernel([row for row in rows if row], len(names) + 1)
        self.weights = [integer_row(vector) for vector in found]

    def row_of(self, monomial):
        """The row of the weight of a monomial."""
        return {self.columns[name]: e for (name, _), e in monomial}

    def even_rows(self, p):
        """The rows that say that all monomials of a polynomial have one weight."""
        return [difference(self.row_of(monomial), self.row_of(p[0][0])) for monomial, _ in p[1:]]

    def rate_row(self, name, n, d, is_rate):
        """The row that says that a name, or its rate, has the weight of n / d."""
        row = difference(self.row_of(n[0][0]), self.row_of(d[0][0]))
        row = difference(row, {self.columns[name]: 1})
        return difference(row, {self.time: 1}) if is_rate else row

    def grade(self, v):
        """The tuple of the weights of a letter."""
        name, k = v
        return tuple([row.get(self.columns[name], 0) + k * row.get(self.time, 0) for row in self.weights])


def difference(row, other):
    """The difference of two rows, without zeros."""
    found = {column: n for column, n in row.items()}
    for column, n in other.items():
        found[column] = found.get(column, 0) - n
    return {column: n for column, n in found.items() if n}
