"""Which letters lead in the general case of a model, told by how letters change with the general run."""

from ratesay.relations import FIRST_ROOM, Elimination
from ratesay.samples import BITS, Sample, Setting, fixed_value, prime_for
from ratesay.variations import changed, varied


class Directions:
    """The changes of letters at one point of a model, in many directions."""

    def __init__(self, model):
        states, parameters, inputs, _, _ = model
        self.model = varied(model, True)
        self.p = prime_for(self.model, BITS)
        self.setting = Setting(self.model, self.p)
        self.own = [x for x, _ in states] + list(parameters)
        self.inputs = inputs
        self.samples = []

    def worths(self, v, count):
        """The list of the changes of a letter in the first so many directions."""
        while len(self.samples) < count:
            given = {}
            seed = len(self.samples) + 10
            for place, name in enumerate(self.own):
                given[(changed(name), 0)] = fixed_value(seed, place, 0, self.p)
            for place, name in enumerate(self.inputs):
                for order in range(MOST_ORDER + 1):
                    given[(changed(name), order)] = fixed_value(seed, place, order + 1, self.p)
            self.samples.append(Sample(self.setting, 0, given))
        return [sample.worth((changed(v[0]), v[1])) for sample in self.samples[:count]]


# Orders of letters in general cases are looked for up to this.
MOST_ORDER = 8


def leaders_of(model, ranking):
    """The list of (leader, letters) of a model's general case, ascending: the leader hangs on these lower letters."""
    elimination = Elimination(Directions(model), FIRST_ROOM)
    top = highest_order(model)
    found = []
    for n in range(len(ranking) - 1, -1, -1):
        led = {}
        for k in range(top + 1):
            for name in reversed(ranking[n]):
                if name in led:
                    continue
                v = (name, k)
                relation = elimination.take(v)
                if relation is not None:
                    led[name] = True
                    found.append((v, sorted([w for w in relation if w != v])))
    return found


def highest_order(model):
    """The order up to which leaders are looked for."""
    states, parameters, inputs, _, _ = model
    return min(MOST_ORDER, len(states) + len(parameters) + len(inputs) + 1)
