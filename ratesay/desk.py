"""A desk that answers lines about the systems of a session."""

from ratesay.errors import BadExplicit, RatesayError
from ratesay.polynomials import UNIT, coefficients, less, letters_of, names_of
from ratesay.ratios import ZERO
from ratesay.simple import case_names
from ratesay.starts import follows
from ratesay.texts import read, text_of
from ratesay.timed import is_same
from ratesay.told import told_by

# The parts of a line behind its first word. A text takes all that is left, blanks too.
PARTS = {
    "name": ("name",),
    "equation": ("name", "text"),
    "inequation": ("name", "text"),
    "strike": ("name", "count"),
    "forget": ("name",),
    "undo": (),
    "redo": (),
    "show": ("name",),
    "solved": ("name",),
    "follows": ("name", "text"),
    "told": ("name", "name", "names"),
    "zero": ("name", "text"),
}
CHANGES = ("name", "equation", "inequation", "strike", "forget", "undo", "redo")
DIGITS = "0123456789"
MOST_COUNT = 15
OTHER_FORM = "what"


def count_of(part):
    """The number that a part tells, None if it tells none from 0 to 15."""
    if len(part) > 2 or part[0] == "0" and part != "0" or [sign for sign in part if sign not in DIGITS]:
        return None
    return int(part) if int(part) <= MOST_COUNT else None


def parts_of_line(line):
    """The tuple of the first word of a line and its parts; None for a line of another form."""
    word = line.split(" ", 1)[0]
    if word not in PARTS:
        return None
    kinds = PARTS[word]
    if kinds and kinds[-1] == "text":
        found = line.split(" ", len(kinds))
    else:
        found = line.split(" ")
    if len(found) != len(kinds) + 1 or "" in found:
        return None
    if "count" in kinds and count_of(found[-1]) is None:
        return None
    return tuple(found)


def one_block(names):
    """The ranking of one block of some names, ascending."""
    block = tuple(sorted(set(names)))
    return (block,) if block else ()


def is_following_from(system, f):
    """Whether a polynomial is 0 at each solution of a system."""
    ranking = one_block([*case_names(system), *names_of(f)])
    return follows(system, f, ranking)[0] == "yes"


def explicit_of(system):
    """The explicit system that a system tells; BadExplicit if it tells none."""
    equations, inequations = system
    slopes = {}
    for p in equations:
        leading = [v for v in letters_of(p) if v[1]]
        if len(leading) != 1 or leading[0][1] != 1 or leading[0][0] in slopes:
            raise BadExplicit()
        parts = coefficients(p, leading[0])
        if len(parts) != 2 or parts[1] != UNIT:
            raise BadExplicit()
        slopes[leading[0][0]] = less((), parts[0])
    if not slopes or inequations or [name for name in case_names(system) if name not in slopes]:
        raise BadExplicit()
    return tuple([(name, slopes[name]) for name in sorted(slopes)])


def shown(system):
    """The text of a system."""
    rows = [text_of(p) + " = 0" for p in system[0]]
    return "; ".join([*rows, *[text_of(p) + " # 0" for p in system[1]]])


class Desk:
    """Answers lines; the session is used and changed."""

    def __init__(self, session):
        self.session = session

    def answer(self, line):
        """The answer to a line."""
        parts = parts_of_line(line)
        if parts is None:
            return OTHER_FORM
        try:
            if parts[0] in CHANGES:
                self.change(parts)
                return "ok"
            if parts[0] == "show":
                return shown(self.session.system(parts[1]))
            return "yes" if self.holds(parts) else "no"
        except RatesayError as e:
            return "error " + type(e).__name__.lower()

    def change(self, parts):
        """Changes the session as a line says."""
        word = parts[0]
        if word == "name":
            self.session.name(parts[1])
        elif word == "equation":
            self.session.equation(parts[1], self.read_for(parts))
        elif word == "inequation":
            self.session.inequation(parts[1], self.read_for(parts))
        elif word == "strike":
            self.session.strike(parts[1], count_of(parts[2]))
        elif word == "forget":
            self.session.forget(parts[1])
        elif word == "undo":
            self.session.undo()
        else:
            self.session.redo()

    def read_for(self, parts):
        """The polynomial of a line's text, when its entry has been looked for."""
        self.session.system(parts[1])
        return read(parts[2])

    def holds(self, parts):
        """The answer to a line that asks whether something is so."""
        word = parts[0]
        system = self.session.system(parts[1])
        if word == "solved":
            return not is_following_from(system, UNIT)
        if word == "told":
            return told_by(system, parts[2], tuple(parts[3].split(",")))[0] == "yes"
        f = read(parts[2])
        if word == "follows":
            return is_following_from(system, f)
        g = explicit_of(system)
        return is_same((g, tuple([ZERO for _ in g])), f, ())
