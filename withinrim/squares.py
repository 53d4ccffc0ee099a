"""Squares that make a TABLE, mixes that come out below nought, counts, rank, and null mixes."""

from withinrim.numbers import is_fraction
from withinrim.plain import (
    NOUGHT, ONE, UNIT, ZERO, fraction_over, fraction_plus, fraction_times, less, mirror, over, plus, reduced, scaled,
    size_of, times,
)
from withinrim.tables import is_numbers, led_row, less_square, need_table


def column_square(table, at):
    """The square (W, M) of an index whose number on the diagonal is not 0: W it, M its column over it."""
    middle = table[at][at]
    return (middle[0], tuple(over(row[at], middle) for row in table))


def clearing(table):
    """(SQUARES, REST, INDEX): stepped squares with their leads, what they leave, and the first index that can't be one.

    INDEX is None if all could be cleared: so just for a nonnegative TABLE, REST being noughts.
    """
    rest, squares = table, []
    for at in range(len(table)):
        if rest[at][at][0][0] > 0:
            weight, mix = column_square(rest, at)
            squares.append((at, weight, mix))
            rest = less_square(rest, weight, mix)
        elif any(each != NOUGHT for each in rest[at]):
            return squares, rest, at
    return squares, rest, None


def mix_below_at(rest, at):
    """A mix that comes out below 0 in what is left, the diagonal being below 0 or the row not noughts at the index."""
    mix = [NOUGHT] * len(rest)
    if rest[at][at][0][0] < 0:
        mix[at] = UNIT
        return mix
    beside = 0
    while rest[at][beside] == NOUGHT:
        beside += 1
    # With this factor both come out together as - 1, whatever the diagonal has beside.
    part = rest[at][beside]
    above = fraction_plus(rest[beside][beside][0], ONE)
    mix[beside] = UNIT
    mix[at] = scaled(mirror(part), fraction_over(above, fraction_times(size_of(part), (-2, 1))))
    return mix


def pair_square(table):
    """The square of the first element that is not nought, all on the diagonal being noughts; None for noughts."""
    for i, row in enumerate(table):
        for j, part in enumerate(row):
            if part != NOUGHT:
                mix = [NOUGHT] * len(table)
                mix[i], mix[j] = UNIT, part
                n, m = size_of(part)
                turned = tuple(mirror(each) for each in led_row(table, mix))
                return (reduced(m, 2 * n), turned)
    return None


def next_square(table):
    """A square that leaves one independent row fewer of the TABLE; None for noughts."""
    for at in range(len(table)):
        if table[at][at] != NOUGHT:
            return column_square(table, at)
    return pair_square(table)


def all_squares(table):
    """Squares with independent mixes that make the TABLE, not checked."""
    rest, squares = table, []
    square = next_square(rest)
    while square is not None:
        squares.append(square)
        rest = less_square(rest, square[0], square[1])
        square = next_square(rest)
    return tuple(squares)


def counted(table):
    """The counts of the TABLE, not checked."""
    squares = all_squares(table)
    above = sum(1 for weight, _ in squares if weight[0] > 0)
    return (above, len(table) - len(squares), len(squares) - above)


def is_square(value, many):
    """Whether it, whatever it is, is a square of so many."""
    if not isinstance(value, tuple) or len(value) != 2:
        return False
    weight, mix = value
    if not is_fraction(weight) or weight == ZERO or not is_numbers(mix, many):
        return False
    return any(each != NOUGHT for each in mix)


def below_in(table):
    """A mix that comes out below 0, of seven rows, too, not checked; None if the TABLE is nonnegative."""
    squares, rest, at = clearing(table)
    if at is None:
        return None
    mix = mix_below_at(rest, at)
    # From the last square back: with such a number at its lead the mix comes out as nought in it, so as in the rest.
    for lead, _, square in reversed(squares):
        total = NOUGHT
        for each, part in zip(mix, square):
            total = plus(total, times(each, part))
        mix[lead] = less(mix[lead], total)
    return tuple(mix)


def squares_of(table):
    """The stepped squares; None unless the TABLE is nonnegative."""
    need_table(table)
    squares, _, at = clearing(table)
    if at is not None:
        return None
    return tuple((weight, mix) for _, weight, mix in squares)


def mix_below(table):
    """A mix that comes out below 0; None if the TABLE is nonnegative."""
    need_table(table)
    return below_in(table)


def signed_squares(table):
    """Squares with independent mixes that make the TABLE."""
    need_table(table)
    return all_squares(table)


def do_make(table, squares):
    """Whether squares, whatever it is, is a tuple of squares that make the TABLE."""
    need_table(table)
    if not isinstance(squares, tuple) or not all(is_square(each, len(table)) for each in squares):
        return False
    rest = table
    for weight, mix in squares:
        rest = less_square(rest, weight, mix)
    return all(each == NOUGHT for row in rest for each in row)


def counts_of(table):
    """(ABOVE, NOUGHT, BELOW)."""
    need_table(table)
    return counted(table)


def rank_of(table):
    """The number of independent rows."""
    need_table(table)
    return len(all_squares(table))


def is_nonnegative(table):
    """Whether no mix comes out below 0."""
    need_table(table)
    return clearing(table)[2] is None


def is_positive(table):
    """Whether each mix that is not nought comes out above 0."""
    need_table(table)
    return counted(table)[0] == len(table)


def null_mixes(table):
    """For each index whose row is a sum of multiples of those ahead, the null mix with 1 at it, 0 at the others."""
    need_table(table)
    leads, found = [], []
    for at, row in enumerate(table):
        mix = tuple(UNIT if k == at else NOUGHT for k in range(len(table)))
        for lead, above, beside in leads:
            factor = row[lead]
            row = tuple(less(x, times(factor, y)) for x, y in zip(row, above))
            mix = tuple(less(x, times(factor, y)) for x, y in zip(mix, beside))
        lead = 0
        while lead < len(row) and row[lead] == NOUGHT:
            lead += 1
        if lead == len(row):
            found.append(mix)
        else:
            turn = over(UNIT, row[lead])
            leads.append((lead, tuple(times(x, turn) for x in row), tuple(times(x, turn) for x in mix)))
    return tuple(found)
