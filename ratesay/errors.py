"""The errors of the package: all of them are RatesayErrors, none stands under another one."""


class RatesayError(ValueError):
    """What every error of the package is."""

    def __init__(self, why=""):
        ValueError.__init__(self, why)


class BadPolynomial(RatesayError):
    """A value that is no polynomial."""

    def __init__(self):
        RatesayError.__init__(self, "a value that is no polynomial")


class BadText(RatesayError):
    """A text that is not right."""

    def __init__(self, at):
        RatesayError.__init__(self, "a text that is not right")
        self.at = at


class BadDivisor(RatesayError):
    """A divisor by which nothing can be divided."""

    def __init__(self):
        RatesayError.__init__(self, "a divisor by which nothing can be divided")


class BadName(RatesayError):
    """A name that cannot stand here."""

    def __init__(self, name):
        RatesayError.__init__(self, "a name that cannot stand here")
        self.name = name


class BadNames(RatesayError):
    """Names that cannot stand here."""

    def __init__(self):
        RatesayError.__init__(self, "names that cannot stand here")


class BadNumber(RatesayError):
    """A number that cannot stand here."""

    def __init__(self, number):
        RatesayError.__init__(self, "a number that cannot stand here")
        self.number = number


class BadLetter(RatesayError):
    """A value that is no letter, or one of a name that is missing."""

    def __init__(self, letter):
        RatesayError.__init__(self, "a value that is no letter, or one of a name that is missing")
        self.letter = letter


class BadFraction(RatesayError):
    """A value that is no fraction."""

    def __init__(self):
        RatesayError.__init__(self, "a value that is no fraction")


class BadRanking(RatesayError):
    """A value that is no ranking, or one that lacks a name."""

    def __init__(self):
        RatesayError.__init__(self, "a value that is no ranking, or one that lacks a name")


class NoLeader(RatesayError):
    """A polynomial without a letter has no leader."""

    def __init__(self):
        RatesayError.__init__(self, "a polynomial without a letter has no leader")


class BadEquations(RatesayError):
    """A value that is no divisors."""

    def __init__(self):
        RatesayError.__init__(self, "a value that is no divisors")


class BadSteps(RatesayError):
    """A value that is no tuple of steps."""

    def __init__(self):
        RatesayError.__init__(self, "a value that is no tuple of steps")


class BadSystem(RatesayError):
    """A value that is no system."""

    def __init__(self):
        RatesayError.__init__(self, "a value that is no system")


class BadCase(RatesayError):
    """A value that is no case."""

    def __init__(self):
        RatesayError.__init__(self, "a value that is no case")


class BadPlanted(RatesayError):
    """A value that is no planted functions."""

    def __init__(self):
        RatesayError.__init__(self, "a value that is no planted functions")


class NotOne(RatesayError):
    """The planted functions are no solution."""

    def __init__(self, kind, place):
        RatesayError.__init__(self, "the planted functions are no solution")
        self.kind = kind
        self.place = place


class BadTower(RatesayError):
    """A value that is no tower."""

    def __init__(self):
        RatesayError.__init__(self, "a value that is no tower")


class NotSquareFree(RatesayError):
    """A tower that is not square-free."""

    def __init__(self, place):
        RatesayError.__init__(self, "a tower that is not square-free")
        self.place = place


class BadStart(RatesayError):
    """A value that is no start."""

    def __init__(self):
        RatesayError.__init__(self, "a value that is no start")


class BadRates(RatesayError):
    """A value that is no rows of rates."""

    def __init__(self):
        RatesayError.__init__(self, "a value that is no rows of rates")


class BadCondition(RatesayError):
    """A value that is no condition."""

    def __init__(self):
        RatesayError.__init__(self, "a value that is no condition")


class BadUnion(RatesayError):
    """A value that is no union."""

    def __init__(self):
        RatesayError.__init__(self, "a value that is no union")


class BadRows(RatesayError):
    """A value that is no rows."""

    def __init__(self):
        RatesayError.__init__(self, "a value that is no rows")


class BadFormula(RatesayError):
    """A value that is no formula."""

    def __init__(self):
        RatesayError.__init__(self, "a value that is no formula")


class BadPaper(RatesayError):
    """A value that is no right paper."""

    def __init__(self):
        RatesayError.__init__(self, "a value that is no right paper")


class BadOutputs(RatesayError):
    """Outputs or inputs that do not fit."""

    def __init__(self):
        RatesayError.__init__(self, "outputs or inputs that do not fit")


class BadExplicit(RatesayError):
    """A value that is no explicit system."""

    def __init__(self):
        RatesayError.__init__(self, "a value that is no explicit system")


class BadPairs(RatesayError):
    """A value that is no pairs of names."""

    def __init__(self):
        RatesayError.__init__(self, "a value that is no pairs of names")


class Clash(RatesayError):
    """A name that stands already."""

    def __init__(self, name):
        RatesayError.__init__(self, "a name that stands already")
        self.name = name


class NoFunction(RatesayError):
    """No function is told so."""

    def __init__(self, what):
        RatesayError.__init__(self, "no function is told so")
        self.what = what


class BadMap(RatesayError):
    """A step of a map that is none."""

    def __init__(self, place):
        RatesayError.__init__(self, "a step of a map that is none")
        self.place = place


class BadMix(RatesayError):
    """A mix that is none."""

    def __init__(self, place):
        RatesayError.__init__(self, "a mix that is none")
        self.place = place


class NotBound(RatesayError):
    """A name that the formula does not bind."""

    def __init__(self):
        RatesayError.__init__(self, "a name that the formula does not bind")


class BoundName(RatesayError):
    """A name that the formula binds."""

    def __init__(self, name):
        RatesayError.__init__(self, "a name that the formula binds")
        self.name = name


class TooMany(RatesayError):
    """The question is too great to be answered."""

    def __init__(self):
        RatesayError.__init__(self, "the question is too great to be answered")


class TooGreat(RatesayError):
    """What is asked goes beyond a told bound."""

    def __init__(self, what):
        RatesayError.__init__(self, "what is asked goes beyond a told bound")
        self.what = what


class NameTaken(RatesayError):
    """An entry of this name stands already."""

    def __init__(self, name):
        RatesayError.__init__(self, "an entry of this name stands already")
        self.name = name


class UnknownName(RatesayError):
    """No entry has this name."""

    def __init__(self, name):
        RatesayError.__init__(self, "no entry has this name")
        self.name = name


class NothingToUndo(RatesayError):
    """No change is left to take back."""

    def __init__(self):
        RatesayError.__init__(self, "no change is left to take back")


class NothingToRedo(RatesayError):
    """No change is left to do again."""

    def __init__(self):
        RatesayError.__init__(self, "no change is left to do again")
