"""Whether a QUOTIENT is up to a bound in the disc, and where it is above it if not."""

from withinrim.numbers import need_bound, rim_at
from withinrim.plain import (
    ONE, ZERO, fraction_less, fraction_over, fraction_plus, fraction_times, mirror, scaled, times, whole_parts,
    whole_product,
)
from withinrim.quotients import degree_of, need_quotient
from withinrim.realrows import never_below, place_below, shortened
from withinrim.rootcounts import closed_count, real_row_of, rim_parts


def rim_size(row, degree):
    """(NUMBERS, M): whole numbers over one above 0, the size squared of (1 - i x)^degree times the ROW, on the rim."""
    real, turned, bottom = whole_parts(row)
    p, q = rim_parts(real, turned)
    total = [x + y for x, y in zip(whole_product(p, p), whole_product(q, q))]
    for _ in range(degree + 1 - len(row)):
        total = whole_product(total, [1, 0, 1])
    return total, bottom * bottom


def gap_of(quotient, bound):
    """(NUMBERS, M): the gap of a QUOTIENT for a bound as whole numbers over one above 0, not checked."""
    top, under = quotient
    degree = degree_of(quotient)
    above, m = rim_size(under, degree)
    below, k = rim_size(top, degree)
    n, bottom = bound
    below = below + [0] * (len(above) - len(below))
    return [n * k * x - bottom * m * y for x, y in zip(above, below)], bottom * m * k


def sizes_along(quotient, bound, number):
    """The size squared of TOP less the bound times that of UNDER at r times the NUMBER on the rim, by powers of r."""
    top, under = quotient
    longest = 2 * degree_of(quotient) + 1
    total = [ZERO] * longest
    for row, factor in ((top, ONE), (under, (-bound[0], bound[1]))):
        along, power = [], (ONE, ZERO)
        for each in row:
            along.append(times(each, power))
            power = times(power, number)
        for i, x in enumerate(along):
            for j, y in enumerate(along):
                part = times(x, mirror(y))[0]
                total[i + j] = fraction_plus(total[i + j], fraction_times(part, factor))
    return total


def place_above(quotient, bound, fraction):
    """A PLACE above the bound, the gap being below 0 at the fraction, and no root of UNDER in the closed disc."""
    number = rim_at(fraction)
    sizes = sizes_along(quotient, bound, number)
    edge, slope = ZERO, ZERO
    for at, (n, m) in enumerate(sizes):
        edge = fraction_plus(edge, (n, m))
        slope = fraction_plus(slope, fraction_times((abs(n), m), (at, 1)))
    # Inwards from the rim by 1 / part what is above it falls by less than it is there.
    n, m = fraction_over(slope, edge)
    part = n // m + 1
    return scaled(number, fraction_less(ONE, (1, part)))


def keeps_to(quotient, bound):
    """Whether a QUOTIENT is up to a bound, not checked."""
    return closed_count(quotient[1]) == 0 and never_below(shortened(gap_of(quotient, bound)[0]))


def above_in(quotient, bound):
    """What shows that a QUOTIENT is not up to a bound, not checked; None if it is."""
    many = closed_count(quotient[1])
    if many > 0:
        return ("roots", many)
    gap = shortened(gap_of(quotient, bound)[0])
    if never_below(gap):
        return None
    return ("place", place_above(quotient, bound, place_below(gap)))


def rim_gap(quotient, bound=(1, 1)):
    """The gap: the bound times UNDER's size squared less TOP's, round the rim."""
    need_quotient(quotient)
    need_bound(bound)
    numbers, bottom = gap_of(quotient, bound)
    return real_row_of(numbers, bottom)


def is_up_to(quotient, bound=(1, 1)):
    """Whether UNDER has no root in the closed disc and the size squared is nowhere there above the bound."""
    need_quotient(quotient)
    need_bound(bound)
    return keeps_to(quotient, bound)


def above_at(quotient, bound=(1, 1)):
    """None if it is up to the bound; otherwise ("roots", MANY) or ("place", PLACE), which show that it is not."""
    need_quotient(quotient)
    need_bound(bound)
    return above_in(quotient, bound)
