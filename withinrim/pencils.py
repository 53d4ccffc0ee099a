"""Pencils of two TABLEs: their rows, how many roots lie where, and their least bounds, compared exactly."""

from itertools import combinations
from math import isqrt

from withinrim.errors import InvalidCount, InvalidPencil
from withinrim.numbers import is_whole, need_fraction
from withinrim.plain import UNIT, fraction_over, less, number_from, reduced, scaled, trimmed, whole_parts
from withinrim.realrows import chain_of, changes, parted, shortened, slope_of, times_bottoms, whole_real
from withinrim.rows import negative, product_of, sum_of
from withinrim.squares import counted
from withinrim.tables import is_table

# Functions that are told of "whole rows" take lists of whole numbers, from the constant on, the last one above 0 (or
# below, where roots alone are counted); all roots are real, and no root is there twice.


def is_pencil(value):
    """Whether it, whatever it is, is a pencil."""
    if not isinstance(value, tuple) or len(value) != 2:
        return False
    table, other = value
    if not is_table(table) or not is_table(other):
        return False
    return len(table) == len(other) and len(table) > 0 and counted(table)[0] == len(table)


def need_pencil(given):
    """Refuse what is no pencil."""
    if not is_pencil(given):
        raise InvalidPencil(given)


def whole_lines(pencil):
    """For each row of x S - R its elements as ROWs in x, multiplied by a whole number above 0 that makes them whole."""
    lines = []
    for one, two in zip(pencil[0], pencil[1]):
        many = len(one)
        real, turned, _ = whole_parts(one + two)
        numbers = [number_from(x, y, 1) for x, y in zip(real, turned)]
        lines.append([trimmed((each, numbers[at])) for at, each in enumerate(negative(numbers[many:]))])
    return lines


def determinant(lines):
    """The ROW that is the determinant of rows of ROWs."""
    # From the last rows up, for each lot of columns: nothing is divided, so whole numbers stay whole.
    found = {(): (UNIT,)}
    for many in range(1, len(lines) + 1):
        line, wider = lines[len(lines) - many], {}
        for columns in combinations(range(len(lines)), many):
            total = ()
            for at, column in enumerate(columns):
                part = product_of(line[column], found[columns[:at] + columns[at + 1:]])
                total = sum_of(total, part if at % 2 == 0 else negative(part))
            wider[columns] = total
        found = wider
    return found[tuple(range(len(lines)))]


def row_along(pencil):
    """The row of a pencil, not checked."""
    parts = [each[0] for each in determinant(whole_lines(pencil))]
    return tuple(fraction_over(each, parts[-1]) for each in parts)


def single_row(pencil):
    """A whole row with the roots of the pencil's row, each just once."""
    p = whole_real(row_along(pencil))[0]
    # All roots being real, the last numbers all along this chain are above 0, and so is that of what is left.
    shared = chain_of(p, slope_of(p))[-1]
    return parted(p, shared)[0]


def stretched(p, count):
    """The whole row whose roots are those of another one, times the count."""
    found, factor = [], 1
    for each in reversed(p):
        found.append(each * factor)
        factor = factor * count
    return found[::-1]


def from_on(p, at):
    """How many roots of a whole row are from the whole number on."""
    numbers, last = list(p), len(p) - 1
    for done in range(last):
        for k in reversed(range(done, last)):
            numbers[k] += at * numbers[k + 1]
    # All roots being real, those beyond are just as many as the signs change in powers of what is beyond.
    return changes(numbers) + (1 if numbers[0] == 0 else 0)


def edge_of(p):
    """A whole number above all sizes of roots of a whole row, not of degree 0."""
    # The last three numbers tell the sum of the squares of all roots, and none of these is above it.
    ahead = p[-3] if len(p) > 2 else 0
    return isqrt((p[-2] * p[-2] - 2 * p[-1] * ahead) // (p[-1] * p[-1])) + 1


def floor_of(p):
    """The greatest whole number up to the greatest root of a whole row, not of degree 0."""
    slope, at = slope_of(p), edge_of(p)
    value, steep = times_bottoms(p, (at, 1)), times_bottoms(slope, (at, 1))
    # Value over slope, which is above 0 from the greatest root on, leads down and never past it: all roots are real.
    while value >= steep:
        at -= value // steep
        value, steep = times_bottoms(p, (at, 1)), times_bottoms(slope, (at, 1))
    while from_on(p, at) == 0:
        at -= 1
    return at


def order_of_greatest(p, q):
    """-1, 0, 1 as the greatest root of one whole row is below that of another one, alike, above it."""
    shared = chain_of(p, q)[-1]
    count = 1
    while True:
        one, two = floor_of(stretched(p, count)), floor_of(stretched(q, count))
        if one != two:
            return -1 if one < two else 1
        # Each alone from the floor on, they are alike if a root of both is there, too; else finer floors part them.
        if all(from_on(stretched(each, count), one) == 1 for each in (p, q, shared)):
            return 0
        count = 2 * count * count


def counts_with(pencil, fraction):
    """(ABOVE, NOUGHT, BELOW) of x S - R, x being the fraction, not checked: the roots below it, it itself, above it."""
    table, other = pencil
    return counted(tuple(
        tuple(less(scaled(x, fraction), y) for x, y in zip(one, two)) for one, two in zip(table, other)
    ))


def row_of(pencil):
    """The fractions of the determinant of x S - R over that of S, from the constant on."""
    need_pencil(pencil)
    return row_along(pencil)


def roots_about(pencil, fraction):
    """How many roots are below the fraction, it itself, above it."""
    need_pencil(pencil)
    need_fraction(fraction)
    return counts_with(pencil, fraction)


def side_of_least(pencil, fraction):
    """-1, 0, 1 as the fraction is below the least, it itself, above it."""
    need_pencil(pencil)
    need_fraction(fraction)
    _, nought, below = counts_with(pencil, fraction)
    if below > 0:
        return -1
    return 0 if nought > 0 else 1


def least_floor(pencil, count):
    """The greatest whole number k such that k over the count is up to the least."""
    need_pencil(pencil)
    if not is_whole(count) or count < 1 or count > 10 ** 40:
        raise InvalidCount(count)
    return floor_of(stretched(single_row(pencil), count))


def least_fraction(pencil):
    """The least; None if it is no fraction."""
    need_pencil(pencil)
    p = single_row(pencil)
    # A fraction that is a root of a whole row has a lower part that divides the last number.
    count = p[-1]
    finer = shortened(stretched(p, count))
    at = floor_of(finer)
    if times_bottoms(finer, (at, 1)) != 0 or from_on(finer, at) > 1:
        return None
    return reduced(at, count)


def compare_leasts(pencil, other):
    """-1, 0, 1 as the least of the pencil is below the other one's, alike, above it."""
    need_pencil(pencil)
    need_pencil(other)
    return order_of_greatest(single_row(pencil), single_row(other))
