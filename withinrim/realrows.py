"""REAL ROWs: values, leaps, real roots, and whether one is anywhere below nought."""

from math import gcd, lcm

from withinrim.errors import InvalidRealRow, NotNow
from withinrim.numbers import is_fraction, need_fraction
from withinrim.plain import ZERO, fraction_less, fraction_plus, fraction_times, order

# Functions that are told of "whole rows" take lists of whole numbers, from the constant on, the last one not 0.


def is_real_row(value):
    """Whether it, whatever it is, is a REAL ROW."""
    if not isinstance(value, tuple) or not all(is_fraction(each) for each in value):
        return False
    return not value or value[-1] != ZERO


def need_real_row(given):
    """Refuse what is no REAL ROW."""
    if not is_real_row(given):
        raise InvalidRealRow(given)


def whole_real(real):
    """(NUMBERS, M): a whole row and a whole number above 0 so that the REAL ROW is the one over the other."""
    bottom = 1
    for _, m in real:
        bottom = lcm(bottom, m)
    return [n * (bottom // m) for n, m in real], bottom


def shortened(numbers):
    """A whole row of the numbers without noughts at the end, divided by all that they have in common."""
    last = len(numbers)
    while last > 0 and numbers[last - 1] == 0:
        last -= 1
    shared = 0
    for each in numbers[:last]:
        shared = gcd(shared, each)
    return [each // shared for each in numbers[:last]]


def slope_of(p):
    """The slope of a whole row."""
    return [at * each for at, each in enumerate(p)][1:]


def parted(p, q):
    """The factor and the rest of a whole row over another one, each times some whole number above 0."""
    many = max(0, len(p) - len(q) + 1)
    factor, rest = [0] * many, list(p)
    turn = 1 if q[-1] > 0 else -1
    for at in reversed(range(many)):
        top = rest.pop()
        shared = gcd(top, q[-1])
        scale, step = turn * q[-1] // shared, turn * top // shared
        # Only what is multiplied by numbers above 0 keeps the signs that are counted.
        factor = [scale * each for each in factor]
        factor[at] = step
        rest = [scale * each for each in rest]
        for k, each in enumerate(q[:-1]):
            rest[at + k] -= step * each
    return shortened(factor), shortened(rest)


def chain_of(p, q):
    """The chain of two whole rows, p not nought, each one times some whole number above 0."""
    chain = [shortened(p)]
    after = shortened(q)
    while after:
        chain.append(after)
        _, rest = parted(chain[-2], chain[-1])
        after = [-each for each in rest]
    return chain


def changes(numbers):
    """How often signs change along the numbers, noughts left out."""
    above = [each > 0 for each in numbers if each != 0]
    return sum(1 for one, other in zip(above, above[1:]) if one != other)


def changes_along(chain):
    """How often signs change along the chain far on the left less how often they do far on the right."""
    right = [p[-1] for p in chain]
    left = [p[-1] if len(p) % 2 == 1 else -p[-1] for p in chain]
    return changes(left) - changes(right)


def times_bottoms(p, fraction):
    """The value of a whole row at a fraction n / m, times m as often as the degree tells."""
    n, m = fraction
    total, bottoms = 0, 1
    for each in reversed(p):
        total = total * n + each * bottoms
        bottoms = bottoms * m
    return total


def changes_at(chain, fraction):
    """How often signs change along the chain at a fraction."""
    return changes([times_bottoms(p, fraction) for p in chain])


def single_chain(p):
    """The chain of a whole row, not nought, with its slope; if it has multiple roots, of the row that has each once."""
    chain = chain_of(p, slope_of(p))
    if len(chain[-1]) > 1:
        once = parted(p, chain[-1])[0]
        chain = chain_of(once, slope_of(once))
    return chain


def root_counts_of(p):
    """How many different real roots a whole row, not nought, has more than 0, 1, .. times, while there are any."""
    counts = []
    while len(p) > 1:
        chain = chain_of(p, slope_of(p))
        many = changes_along(chain)
        if many == 0:
            break
        counts.append(many)
        p = chain[-1]
    return counts


def never_below(p):
    """Whether a whole row has no value below 0."""
    if not p:
        return True
    if p[-1] < 0:
        return False
    counts = root_counts_of(p) + [0]
    return all(counts[at] == counts[at + 1] for at in range(0, len(counts) - 1, 2))


def beyond_roots(p):
    """A whole number above all sizes of roots of a whole row, not nought."""
    return max(abs(each) for each in p) // abs(p[-1]) + 2


def between(p, low, high):
    """A fraction between two others, low below high, that is no root of the whole row, not nought."""
    gap = fraction_less(high, low)
    part = 2
    middle = fraction_plus(low, fraction_times(gap, (1, part)))
    while times_bottoms(p, middle) == 0:
        part += 1
        middle = fraction_plus(low, fraction_times(gap, (1, part)))
    return middle


def place_below(p):
    """A fraction at which a whole row that is below 0 somewhere is so."""
    edge = beyond_roots(p)
    chain = single_chain(p)
    spans = [((-edge, 1), (edge, 1))]
    while spans:
        low, high = spans.pop()
        for end in (low, high):
            if times_bottoms(p, end) < 0:
                return end
        # All ends are no roots, so what is below 0 lies between two roots, which get parted.
        if changes_at(chain, low) - changes_at(chain, high) > 1:
            middle = between(p, low, high)
            spans.append((low, middle))
            spans.append((middle, high))
    return None


def real_value(real, fraction):
    """The value of the REAL ROW at the fraction."""
    need_real_row(real)
    need_fraction(fraction)
    total = ZERO
    for each in reversed(real):
        total = fraction_plus(fraction_times(total, fraction), each)
    return total


def leaps(real, other):
    """The leaps of the other REAL ROW over the first one."""
    need_real_row(real)
    need_real_row(other)
    if not real:
        raise NotNow()
    return changes_along(chain_of(whole_real(real)[0], whole_real(other)[0]))


def real_roots(real):
    """How many different real roots it has more than 0, 1, .. times, while there are any."""
    need_real_row(real)
    if not real:
        raise NotNow()
    return tuple(root_counts_of(whole_real(real)[0]))


def real_roots_within(real, low, high):
    """How many different real roots are above low and up to high."""
    need_real_row(real)
    need_fraction(low)
    need_fraction(high)
    if not real:
        raise NotNow()
    if order(low, high) >= 0:
        return 0
    chain = single_chain(whole_real(real)[0])
    return changes_at(chain, low) - changes_at(chain, high)


def is_never_below(real):
    """Whether the REAL ROW has no value below 0."""
    need_real_row(real)
    return never_below(whole_real(real)[0])


def below_at(real):
    """A fraction with a value below 0; None if there is none."""
    need_real_row(real)
    p = whole_real(real)[0]
    return None if never_below(p) else place_below(p)
