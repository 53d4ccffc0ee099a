"""Claims: what they are, and their opposites."""

from withinrim.bounds import is_kind
from withinrim.data import is_data, is_place
from withinrim.errors import InvalidClaim
from withinrim.loops import is_process
from withinrim.numbers import is_bound, is_number
from withinrim.plants import is_plant
from withinrim.quotients import is_quotient
from withinrim.tables import is_table

# Each word, its opposite, and what both are about.
PAIRS = (
    ("up to", "above", ("quotient", "bound")),
    ("some", "none", ("data", "bound")),
    ("one", "not one", ("data", "bound")),
    ("many", "not many", ("data", "bound")),
    ("answer", "no answer", ("data", "bound", "quotient")),
    ("value", "no value", ("data", "bound", "place", "number")),
    ("nonnegative", "below", ("table",)),
    ("tame", "not tame", ("data",)),
    ("steadied", "not steadied", ("process", "quotient")),
    ("keeps", "fails", ("process", "quotient", "kind", "bound")),
    ("kept", "not kept", ("plant", "kind", "bound")),
)


def is_about(about, value):
    """Whether it, whatever it is, is of the kind that a word is about."""
    if about == "quotient":
        return is_quotient(value)
    if about == "bound":
        return is_bound(value)
    if about == "data":
        return is_data(value)
    if about == "place":
        return is_place(value)
    if about == "number":
        return is_number(value)
    if about == "table":
        return is_table(value)
    if about == "process":
        return is_process(value)
    if about == "kind":
        return is_kind(value)
    return is_plant(value)


def told_of(word):
    """(OPPOSITE, ABOUT) of a word; None for what is none, whatever it is."""
    if not isinstance(word, str):
        return None
    for one, other, about in PAIRS:
        if word == one:
            return (other, about)
        if word == other:
            return (one, about)
    return None


def is_claim(value):
    """Whether it, whatever it is, is a claim."""
    if not isinstance(value, tuple) or len(value) == 0:
        return False
    told = told_of(value[0])
    if told is None or len(value) != len(told[1]) + 1:
        return False
    return all(is_about(about, each) for about, each in zip(told[1], value[1:]))


def need_claim(given):
    """Refuse what is no claim."""
    if not is_claim(given):
        raise InvalidClaim(given)


def opposite_of(claim):
    """The opposite of a claim, not checked."""
    return (told_of(claim[0])[0],) + claim[1:]


def opposite(claim):
    """The claim that is true exactly if this one is not."""
    need_claim(claim)
    return opposite_of(claim)
