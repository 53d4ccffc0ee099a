"""All errors of the package: each stands under RimError alone."""


class RimError(ValueError):
    """The base of every error of the package."""


class InvalidFraction(RimError):
    """No fraction, or none of the asked kind."""

    def __init__(self, given):
        self.given = given


class InvalidNumber(RimError):
    """No NUMBER, or none of the asked kind."""

    def __init__(self, given):
        self.given = given


class InvalidRow(RimError):
    """No ROW, or none of the asked kind."""

    def __init__(self, given):
        self.given = given


class InvalidQuotient(RimError):
    """No QUOTIENT, or none of the asked kind."""

    def __init__(self, given):
        self.given = given


class InvalidPlace(RimError):
    """No NUMBER in the disc."""

    def __init__(self, given):
        self.given = given


class InvalidWhole(RimError):
    """No whole number, or nought where it may not stand."""

    def __init__(self, given):
        self.given = given


class InvalidRealRow(RimError):
    """No REAL ROW."""

    def __init__(self, given):
        self.given = given


class InvalidCount(RimError):
    """No whole number of the asked range."""

    def __init__(self, given):
        self.given = given


class InvalidTurn(RimError):
    """No turn for the bound."""

    def __init__(self, given):
        self.given = given


class InvalidName(RimError):
    """No NAME."""

    def __init__(self, given):
        self.given = given


class InvalidLine(RimError):
    """No text where a line is read."""

    def __init__(self, given):
        self.given = given


class InvalidPencil(RimError):
    """No pencil."""

    def __init__(self, given):
        self.given = given


class InvalidWord(RimError):
    """No word of those that are told."""

    def __init__(self, given):
        self.given = given


class InvalidClaim(RimError):
    """No claim."""

    def __init__(self, given):
        self.given = given


class InvalidData(RimError):
    """No DATA; the index of the first wrong pair."""

    def __init__(self, index):
        self.index = index


class InvalidNumbers(RimError):
    """No tuple of NUMBERs; the index of the first that is none."""

    def __init__(self, index):
        self.index = index


class InvalidPlaces(RimError):
    """No tuple of PLACEs; the index of the first that is none."""

    def __init__(self, index):
        self.index = index


class InvalidValues(RimError):
    """No tuple of VALUES; the index of the first that is no NUMBER."""

    def __init__(self, index):
        self.index = index


class InvalidTable(RimError):
    """No TABLE; the index of the first wrong row."""

    def __init__(self, index):
        self.index = index


class InvalidMix(RimError):
    """No mix; the index of the first element that is no NUMBER."""

    def __init__(self, index):
        self.index = index


class InvalidMixes(RimError):
    """No mixes; the index of the first that is no mix."""

    def __init__(self, index):
        self.index = index


class InvalidPlant(RimError):
    """No plant; the index of the first wrong part."""

    def __init__(self, index):
        self.index = index


class InvalidText(RimError):
    """No text of what is read; the line and the word of the first wrong word."""

    def __init__(self, line, word):
        self.line = line
        self.word = word


class NotNow(RimError):
    """What is asked for is not there for these arguments."""


class Alike(RimError):
    """A place or a name that is there already."""


class TooMany(RimError):
    """More than the limit lets in."""


class NoSeries(RimError):
    """A quotient that has no value at 0."""
