"""TABLEs: what mixes come out as in them, and TABLEs led, added, multiplied, struck, put beside and cleared."""

from withinrim.errors import InvalidCount, InvalidMix, InvalidMixes, InvalidTable, NotNow, TooMany
from withinrim.numbers import is_number, is_whole, need_fraction
from withinrim.plain import NOUGHT, ZERO, less, mirror, over, plus, scaled, times

MOST_ROWS = 6


def is_numbers(value, many):
    """Whether it, whatever it is, is a tuple of so many NUMBERs."""
    return isinstance(value, tuple) and len(value) == many and all(is_number(each) for each in value)


def is_rows(value):
    """Whether it, whatever it is, is a tuple of up to so many elements as a TABLE may have rows."""
    return isinstance(value, tuple) and len(value) <= MOST_ROWS


def wrong_row(value):
    """The index of the first wrong row in a tuple of up to 6 elements; None if it is a TABLE."""
    for index, row in enumerate(value):
        if not is_numbers(row, len(value)):
            return index
        if any(row[at] != mirror(value[at][index]) for at in range(index + 1)):
            return index
    return None


def is_table(value):
    """Whether it, whatever it is, is a TABLE."""
    return is_rows(value) and wrong_row(value) is None


def need_table(given):
    """Refuse what is no TABLE."""
    if not is_rows(given):
        raise InvalidTable(None)
    index = wrong_row(given)
    if index is not None:
        raise InvalidTable(index)


def need_table_like(given, table):
    """Refuse what is no TABLE of just as many rows as the other one."""
    if not isinstance(given, tuple) or len(given) != len(table):
        raise InvalidTable(None)
    need_table(given)


def need_mix(given, many):
    """Refuse what is no mix of so many."""
    if not isinstance(given, tuple) or len(given) != many:
        raise InvalidMix(None)
    for index, each in enumerate(given):
        if not is_number(each):
            raise InvalidMix(index)


def need_mixes(given, many):
    """Refuse what is no tuple of up to 6 mixes of so many."""
    if not is_rows(given):
        raise InvalidMixes(None)
    for index, each in enumerate(given):
        if not is_numbers(each, many):
            raise InvalidMixes(index)


def led_row(table, mix):
    """The mix c T of a mix c and a TABLE T, not checked."""
    total = (NOUGHT,) * len(table)
    for each, row in zip(mix, table):
        if each != NOUGHT:
            total = tuple(plus(x, times(each, y)) for x, y in zip(total, row))
    return total


def together(table, mix, other_mix):
    """What two mixes come out together as, not checked."""
    total = NOUGHT
    for x, y in zip(led_row(table, mix), other_mix):
        total = plus(total, times(x, mirror(y)))
    return total


def less_square(table, weight, mix):
    """The TABLE less the one that the square (WEIGHT, MIX) makes, not checked."""
    turned = [scaled(mirror(each), weight) for each in mix]
    return tuple(tuple(less(x, times(m, k)) for x, k in zip(row, turned)) for row, m in zip(table, mix))


def comes_out(table, mix):
    """What the mix comes out as, a fraction."""
    need_table(table)
    need_mix(mix, len(table))
    return together(table, mix, mix)[0]


def come_out_together(table, mix, other_mix):
    """What two mixes come out together as, a NUMBER."""
    need_table(table)
    need_mix(mix, len(table))
    need_mix(other_mix, len(table))
    return together(table, mix, other_mix)


def led_table(table, mixes):
    """The TABLE that has at a, b what the mixes a and b come out together as."""
    need_table(table)
    need_mixes(mixes, len(table))
    return tuple(tuple(together(table, one, other) for other in mixes) for one in mixes)


def table_sum(table, other):
    """The sum of two TABLEs of equally many rows."""
    need_table(table)
    need_table_like(other, table)
    return tuple(tuple(plus(x, y) for x, y in zip(one, two)) for one, two in zip(table, other))


def table_multiple(table, fraction):
    """The TABLE times a fraction."""
    need_table(table)
    need_fraction(fraction)
    return tuple(tuple(scaled(each, fraction) for each in row) for row in table)


def element_product(table, other):
    """The product, element by element, of two TABLEs of equally many rows."""
    need_table(table)
    need_table_like(other, table)
    return tuple(tuple(times(x, y) for x, y in zip(one, two)) for one, two in zip(table, other))


def tables_beside(table, other):
    """The two TABLEs beside one another, noughts elsewhere."""
    need_table(table)
    need_table(other)
    if len(table) + len(other) > MOST_ROWS:
        raise TooMany()
    ahead, behind = (NOUGHT,) * len(table), (NOUGHT,) * len(other)
    return tuple(row + behind for row in table) + tuple(ahead + row for row in other)


def struck_table(table, index):
    """The TABLE without the row and the column of the index."""
    need_table(table)
    if not is_whole(index) or index < 0 or index >= len(table):
        raise InvalidCount(index)
    return tuple(row[:index] + row[index + 1:] for row in table[:index] + table[index + 1:])


def cleared_table(table):
    """What is left of the TABLE, from the index 1 on, when its first row is cleared."""
    need_table(table)
    if not table or table[0][0][0] == ZERO:
        raise NotNow()
    mix = tuple(over(row[0], table[0][0]) for row in table)
    return tuple(row[1:] for row in less_square(table, table[0][0][0], mix)[1:])
