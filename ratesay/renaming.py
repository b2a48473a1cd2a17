"""Polynomials with other names for some of their names."""


def with_names(p, table):
    """The polynomial with the names of a dict replaced by what the dict tells."""
    found = []
    for monomial, f in p:
        row = [((table.get(v[0], v[0]), v[1]), e) for v, e in monomial]
        found.append((tuple(sorted(row)), f))
    return tuple(sorted(found))
