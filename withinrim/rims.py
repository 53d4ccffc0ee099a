"""Rim ones: QUOTIENTs in the disc that have one size all along the rim; what they take, and how often."""

from withinrim.data import is_place
from withinrim.errors import InvalidNumber, InvalidPlaces, InvalidQuotient, InvalidRow, NotNow, TooMany
from withinrim.numbers import is_number, need_bound, need_number
from withinrim.plain import NOUGHT, ONE, UNIT, less, over, size_of, trimmed
from withinrim.quotients import brought_down, degree_of, is_quotient, need_quotient
from withinrim.rootcounts import closed_count, counts_in
from withinrim.rows import back_by, difference, is_row, multiple, product_of, sum_of

MOST_DEGREE = 12
MOST_PLACES = 6


def bound_for(value):
    """The bound for which it, whatever it is, is a rim one; None if it is none."""
    if not is_quotient(value):
        return None
    top, under = value
    degree = degree_of(value)
    if len(top) != degree + 1 or top != multiple(back_by(under, degree), top[-1]):
        return None
    return size_of(top[-1]) if closed_count(under) == 0 else None


def need_rim(given):
    """Refuse what is no rim one for any bound."""
    if bound_for(given) is None:
        raise InvalidQuotient(given)


def need_factor(given):
    """Refuse what is no NUMBER other than 0."""
    if not is_number(given) or given == NOUGHT:
        raise InvalidNumber(given)


def with_roots(number, row):
    """The rim one with the roots of a ROW, all in the disc, that is K times the product of [D2], not checked."""
    single = multiple(row, over(UNIT, row[-1]))
    return (multiple(single, number), back_by(single, len(row) - 1))


def at_values(rim, other):
    """A QUOTIENT at the values of another one, both rim ones for 1, not checked."""
    many = degree_of(rim)
    powers = [(UNIT,)]
    for _ in range(many):
        powers.append(product_of(powers[-1], other[1]))
    above, below, ahead = (), (), (UNIT,)
    for at in range(many + 1):
        factor = product_of(ahead, powers[many - at])
        above = sum_of(above, product_of(rim[0][at:at + 1], factor))
        below = sum_of(below, product_of(rim[1][at:at + 1], factor))
        ahead = product_of(ahead, other[0])
    return brought_down(above, below)


def is_rim_one(value, bound=(1, 1)):
    """Whether it, whatever it is, is a rim one for the bound."""
    need_bound(bound)
    return bound_for(value) == bound


def bound_of(rim):
    """The bound for which it is a rim one."""
    need_rim(rim)
    return size_of(rim[0][-1])


def rim_of(number, row):
    """The rim one that is the number times the product of (z - a) / (1 - a' z) over the roots of the ROW."""
    need_factor(number)
    if not is_row(row) or not row or len(row) > MOST_DEGREE + 1 or counts_in(row)[0] < len(row) - 1:
        raise InvalidRow(row)
    return with_roots(number, row)


def rim_of_places(number, places):
    """The rim one that is the number times the product of (z - a) / (1 - a' z) over the places."""
    need_factor(number)
    if not isinstance(places, tuple) or len(places) > MOST_PLACES:
        raise InvalidPlaces(None)
    row = (UNIT,)
    for index, each in enumerate(places):
        if not is_place(each):
            raise InvalidPlaces(index)
        row = product_of(row, (less(NOUGHT, each), UNIT))
    return with_roots(number, row)


def taken(rim, number):
    """How often the rim one takes the number in the disc, on the rim, beyond."""
    need_rim(rim)
    need_number(number)
    if degree_of(rim) == 0:
        raise NotNow()
    top, under = rim
    return counts_in(difference(top, product_of(under, trimmed((number,)))))


def rounds(quotient):
    """How often the QUOTIENT goes round 0 as z goes once round the rim."""
    need_quotient(quotient)
    top, under = quotient
    if not top or closed_count(under) > 0:
        raise NotNow()
    within, on_rim, _ = counts_in(top)
    if on_rim > 0:
        raise NotNow()
    return within


def taken_at(rim, other):
    """The rim one at the values of the other one, both for the bound 1."""
    need_rim(rim)
    need_rim(other)
    if size_of(rim[0][-1]) != ONE or size_of(other[0][-1]) != ONE:
        raise NotNow()
    if degree_of(rim) * degree_of(other) > MOST_DEGREE:
        raise TooMany()
    return at_values(rim, other)
