"""Fractions and NUMBERs: making, telling, reckoning, and the rim by fractions."""

from math import gcd

from withinrim.errors import InvalidFraction, InvalidNumber, InvalidWhole, NotNow
from withinrim.plain import (
    NOUGHT, ONE, fraction_over, fraction_plus, less, mirror, number_from, order, over, plus, reduced, size_of, times,
)


def is_whole(value):
    """Whether it, whatever it is, is a whole number."""
    return isinstance(value, int) and not isinstance(value, bool)


def is_fraction(value):
    """Whether it, whatever it is, is a fraction."""
    if not isinstance(value, tuple) or len(value) != 2:
        return False
    n, m = value
    return is_whole(n) and is_whole(m) and m > 0 and gcd(n, m) == 1


def is_number(value):
    """Whether it, whatever it is, is a NUMBER."""
    return isinstance(value, tuple) and len(value) == 2 and is_fraction(value[0]) and is_fraction(value[1])


def is_bound(value):
    """Whether it, whatever it is, is a fraction above 0."""
    return is_fraction(value) and value[0] > 0


def need_whole(given):
    """Refuse what is no whole number."""
    if not is_whole(given):
        raise InvalidWhole(given)


def need_bottom(given):
    """Refuse what is no whole number other than 0."""
    if not is_whole(given) or given == 0:
        raise InvalidWhole(given)


def need_fraction(given):
    """Refuse what is no fraction."""
    if not is_fraction(given):
        raise InvalidFraction(given)


def need_bound(given):
    """Refuse what is no fraction above 0."""
    if not is_bound(given):
        raise InvalidFraction(given)


def need_number(given):
    """Refuse what is no NUMBER."""
    if not is_number(given):
        raise InvalidNumber(given)


def fraction_of(n, m=1):
    """The fraction n / m."""
    need_whole(n)
    need_bottom(m)
    return reduced(n, m)


def number_of(a, b=0, m=1):
    """The NUMBER (a + b i) / m."""
    need_whole(a)
    need_whole(b)
    need_bottom(m)
    return number_from(a, b, m)


def compared(fraction, other):
    """-1 if the fraction is below the other one, 0 if they are the same, otherwise 1."""
    need_fraction(fraction)
    need_fraction(other)
    return order(fraction, other)


def number_sum(number, other):
    """The sum of two NUMBERs."""
    need_number(number)
    need_number(other)
    return plus(number, other)


def number_less(number, other):
    """The first NUMBER less the other one."""
    need_number(number)
    need_number(other)
    return less(number, other)


def number_product(number, other):
    """The product of two NUMBERs."""
    need_number(number)
    need_number(other)
    return times(number, other)


def number_over(number, other):
    """The first NUMBER over the other one, which is not nought."""
    need_number(number)
    need_number(other)
    if other == NOUGHT:
        raise NotNow()
    return over(number, other)


def mirrored(number):
    """A - B i for A + B i."""
    need_number(number)
    return mirror(number)


def size(number):
    """The size squared, a fraction."""
    need_number(number)
    return size_of(number)


def lies(number):
    """Where it lies: "disc", "rim" or "beyond"."""
    need_number(number)
    side = order(size_of(number), ONE)
    if side == 0:
        return "rim"
    return "disc" if side < 0 else "beyond"


def rim_at(fraction):
    """The rim number of a fraction, not checked."""
    n, m = fraction
    return number_from(m * m - n * n, 2 * n * m, m * m + n * n)


def rim_number(fraction):
    """(1 + i X) / (1 - i X) for the fraction X."""
    need_fraction(fraction)
    return rim_at(fraction)


def rim_fraction(number):
    """The fraction whose rim number it is; None for -1."""
    need_number(number)
    if size_of(number) != ONE:
        raise NotNow()
    beside = fraction_plus(ONE, number[0])
    if beside[0] == 0:
        return None
    return fraction_over(number[1], beside)
