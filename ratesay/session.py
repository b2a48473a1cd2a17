"""Sessions: systems under names, changed one by one, with undo and redo."""

from ratesay.errors import (
    BadName,
    BadNumber,
    BadPolynomial,
    NameTaken,
    NothingToRedo,
    NothingToUndo,
    TooGreat,
    UnknownName,
)
from ratesay.forms import is_count, is_name
from ratesay.polynomials import is_polynomial

MOST_MEMBERS = 8


class Session:
    """Entries, that is names with systems."""

    def __init__(self):
        self.table = {}
        self.past = []
        self.future = []

    def __eq__(self, other):
        return isinstance(other, Session) and self.table == other.table

    def __ne__(self, other):
        return not self == other

    def __len__(self):
        return len(self.table)

    def name(self, name):
        """Makes an entry with an empty system."""
        if not is_name(name):
            raise BadName(name)
        if name in self.table:
            raise NameTaken(name)
        self.change(name, ((), ()))

    def equation(self, name, p):
        """Puts an equation behind the others of an entry."""
        equations, inequations = self.grown(name, p, 0)
        self.change(name, ((*equations, p), inequations))

    def inequation(self, name, p):
        """Puts an inequation behind the others of an entry."""
        equations, inequations = self.grown(name, p, 1)
        self.change(name, (equations, (*inequations, p)))

    def strike(self, name, count):
        """Takes an equation or an inequation away."""
        equations, inequations = self.system(name)
        first = len(equations)
        if not is_count(count, 0) or count >= first + len(inequations):
            raise BadNumber(count)
        if count < first:
            equations = (*equations[:count], *equations[count + 1:])
        else:
            inequations = (*inequations[:count - first], *inequations[count - first + 1:])
        self.change(name, (equations, inequations))

    def forget(self, name):
        """Takes an entry away."""
        self.system(name)
        self.change(name, None)

    def entries(self):
        """The tuple of (name, system), ascending by names."""
        return tuple([(name, self.table[name]) for name in sorted(self.table)])

    def system(self, name):
        """The system of an entry."""
        if not is_name(name) or name not in self.table:
            raise UnknownName(name)
        return self.table[name]

    def undo(self):
        """Takes back the last change."""
        if not self.past:
            raise NothingToUndo()
        self.future.append(self.table)
        self.table = self.past.pop()

    def redo(self):
        """Does again the change that was taken back last."""
        if not self.future:
            raise NothingToRedo()
        self.past.append(self.table)
        self.table = self.future.pop()

    def grown(self, name, p, side):
        """The system of an entry that may get one more member."""
        system = self.system(name)
        if not is_polynomial(p):
            raise BadPolynomial()
        if len(system[side]) == MOST_MEMBERS:
            raise TooGreat("system")
        return system

    def change(self, name, system):
        """Gives an entry another system, or takes it away for None."""
        self.past.append(self.table)
        self.future = []
        self.table = {other: self.table[other] for other in self.table if other != name}
        if system is not None:
            self.table[name] = system
