"""The degrees of letters at the general run of a model, along a line: what relations between them are ordered by."""

from ratesay.rows import fraction_with
from ratesay.samples import BITS, Sample, Setting, fixed_value, prime_for

# A fraction with degrees whose sum is about so many is found by values at so many points.
COUNTS = (14, 40, 90)
HEAVY = 90


class Line:
    """Samples of a model along a line in the letters of states, parameters and inputs."""

    def __init__(self, model, orders):
        states, parameters, inputs, _, _ = model
        self.model = model
        self.p = prime_for(model, BITS)
        self.setting = Setting(model, self.p)
        self.own = [(x, 0) for x, _ in states] + [(name, 0) for name in parameters]
        self.own.extend([(name, k) for name in inputs for k in range(orders + 1)])
        self.samples = []

    def sample(self, k):
        """The sample at the place k of the line."""
        while len(self.samples) <= k:
            t = len(self.samples) + 1
            given = {}
            for place, v in enumerate(self.own):
                low, high = fixed_value(1, place, 0, self.p), fixed_value(2, place, 0, self.p)
                given[v] = (low + t * high) % self.p
            self.samples.append(Sample(self.setting, 0, given))
        return self.samples[k]

    def degree(self, v):
        """The degree of a letter along the line; a great number if it is great."""
        for count in COUNTS:
            values = [self.sample(k).worth(v) for k in range(count)]
            found = fraction_with(list(range(1, count + 1)), values, self.p)
            if found is not None:
                return max(len(found[0]), len(found[1])) - 1
        return HEAVY
