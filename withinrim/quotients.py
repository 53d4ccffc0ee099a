"""QUOTIENTs of ROWs: reducing, sums, differences, products, quotients, values and coefficients."""

from withinrim.errors import InvalidCount, InvalidQuotient, NoSeries, NotNow
from withinrim.numbers import is_whole, need_number
from withinrim.plain import NOUGHT, UNIT, over, series_over
from withinrim.rows import (
    common, difference, divided, first_at, is_row, mirror_row, multiple, need_row, product_of, sum_of, value_at,
)

MOST_COEFFICIENTS = 24


def is_quotient(value):
    """Whether it, whatever it is, is a QUOTIENT."""
    if not isinstance(value, tuple) or len(value) != 2:
        return False
    top, under = value
    if not is_row(top) or not is_row(under):
        return False
    return bool(under) and under[0] == UNIT and len(common(top, under)) == 1


def need_quotient(given):
    """Refuse what is no QUOTIENT."""
    if not is_quotient(given):
        raise InvalidQuotient(given)


def brought_down(top, under):
    """TOP and UNDER, not (), reduced to a QUOTIENT, not checked; None if it has no value at 0."""
    shared = common(top, under)
    if len(shared) > 1:
        top, _ = divided(top, shared)
        under, _ = divided(under, shared)
    if under[0] == NOUGHT:
        return None
    turn = over(UNIT, under[0])
    return (multiple(top, turn), multiple(under, turn))


def degree_of(quotient):
    """The degree of a QUOTIENT, not checked."""
    top, under = quotient
    return max(len(top), len(under)) - 1


def coefficients_at(quotient, number, many):
    """So many coefficients at a NUMBER, not checked; None at a root of UNDER."""
    top, under = quotient
    above, below = first_at(top, number, many), first_at(under, number, many)
    if below[0] == NOUGHT:
        return None
    return series_over(above + (NOUGHT,) * (many - len(above)), below)


def mirror_quotient(quotient):
    """The QUOTIENT with all NUMBERs mirrored, not checked."""
    return (mirror_row(quotient[0]), mirror_row(quotient[1]))


def quotient_of(top, under):
    """TOP over UNDER, reduced."""
    need_row(top)
    need_row(under)
    if not under:
        raise NotNow()
    quotient = brought_down(top, under)
    if quotient is None:
        raise NoSeries()
    return quotient


def quotient_degree(quotient):
    """The greater one of the degrees of TOP and UNDER, 0 for TOP ()."""
    need_quotient(quotient)
    return degree_of(quotient)


def quotient_sum(quotient, other):
    """The sum of two QUOTIENTs."""
    need_quotient(quotient)
    need_quotient(other)
    top = sum_of(product_of(quotient[0], other[1]), product_of(other[0], quotient[1]))
    return brought_down(top, product_of(quotient[1], other[1]))


def quotient_less(quotient, other):
    """The first QUOTIENT less the other one."""
    need_quotient(quotient)
    need_quotient(other)
    top = difference(product_of(quotient[0], other[1]), product_of(other[0], quotient[1]))
    return brought_down(top, product_of(quotient[1], other[1]))


def quotient_product(quotient, other):
    """The product of two QUOTIENTs."""
    need_quotient(quotient)
    need_quotient(other)
    return brought_down(product_of(quotient[0], other[0]), product_of(quotient[1], other[1]))


def quotient_over(quotient, other):
    """The first QUOTIENT over the other one, which is not nought."""
    need_quotient(quotient)
    need_quotient(other)
    if not other[0]:
        raise NotNow()
    found = brought_down(product_of(quotient[0], other[1]), product_of(quotient[1], other[0]))
    if found is None:
        raise NoSeries()
    return found


def quotient_value(quotient, number):
    """The value at the NUMBER; None at a root of UNDER."""
    need_quotient(quotient)
    need_number(number)
    under = value_at(quotient[1], number)
    if under == NOUGHT:
        return None
    return over(value_at(quotient[0], number), under)


def coefficients(quotient, number, many):
    """So many coefficients in powers of h at the number + h; None at a root of UNDER."""
    need_quotient(quotient)
    need_number(number)
    if not is_whole(many) or many < 1 or many > MOST_COEFFICIENTS:
        raise InvalidCount(many)
    return coefficients_at(quotient, number, many)


def mirrored_quotient(quotient):
    """The QUOTIENT with all NUMBERs mirrored."""
    need_quotient(quotient)
    return mirror_quotient(quotient)
