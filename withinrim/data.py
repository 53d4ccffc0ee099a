"""DATA: what they are, their table for a bound, and whether a QUOTIENT has them."""

from math import comb

from withinrim.errors import Alike, InvalidData, InvalidPlace, TooMany
from withinrim.numbers import is_number, need_bound, need_number
from withinrim.plain import NOUGHT, ONE, UNIT, less, mirror, order, over, plus, scaled, size_of, times
from withinrim.quotients import coefficients_at, need_quotient

MOST_PAIRS = 6
MOST_VALUES = 6
MOST_AT_PLACE = 3


def is_place(value):
    """Whether it, whatever it is, is a PLACE."""
    return is_number(value) and order(size_of(value), ONE) < 0


def need_place(given):
    """Refuse what is no PLACE."""
    if not is_place(given):
        raise InvalidPlace(given)


def has_place(pairs, place):
    """Whether the PLACE is that of one of the pairs, whose first elements are PLACEs."""
    return any(each == place for each, _ in pairs)


def is_told(value):
    """Whether it, whatever it is, is a pair (PLACE, VALUES)."""
    if not isinstance(value, tuple) or len(value) != 2:
        return False
    place, values = value
    if not is_place(place) or not isinstance(values, tuple):
        return False
    return len(values) > 0 and len(values) <= MOST_AT_PLACE and all(is_number(each) for each in values)


def is_lot(value):
    """Whether it, whatever it is, is a tuple of up to so many elements as DATA may have."""
    return isinstance(value, tuple) and len(value) <= MOST_PAIRS


def wrong_pair(value):
    """The index of the first wrong pair in a tuple of up to 6 elements; None if it is DATA."""
    many = 0
    for index, each in enumerate(value):
        if not is_told(each) or has_place(value[:index], each[0]):
            return index
        many += len(each[1])
        if many > MOST_VALUES:
            return index
    return None


def is_data(value):
    """Whether it, whatever it is, is DATA."""
    return is_lot(value) and wrong_pair(value) is None


def need_data(given):
    """Refuse what is no DATA."""
    if not is_lot(given):
        raise InvalidData(None)
    index = wrong_pair(given)
    if index is not None:
        raise InvalidData(index)


def count_of(data):
    """How many VALUES there are, not checked."""
    return sum(len(values) for _, values in data)


def power(number, many):
    """The NUMBER multiplied by itself so many times."""
    total = UNIT
    for _ in range(many):
        total = times(total, number)
    return total


def kernel(place, a, other, b):
    """The coefficient of h^a times the mirrored k to b in 1 / (1 - (z + h) (y + k)'), z and y being two PLACEs."""
    turned = mirror(other)
    under = less(UNIT, times(place, turned))
    total = NOUGHT
    for s in range(min(a, b) + 1):
        many = comb(a + b - s, s) * comb(a + b - 2 * s, a - s)
        part = times(power(turned, a - s), power(place, b - s))
        total = plus(total, over(scaled(part, (many, 1)), power(under, a + b - s + 1)))
    return total


def place_table(data):
    """The TABLE S of DATA, which hangs on the PLACEs and on how many VALUES they have alone."""
    indexes = [(place, a) for place, values in data for a in range(len(values))]
    return tuple(tuple(kernel(place, a, other, b) for other, b in indexes) for place, a in indexes)


def times_values(data, rows):
    """V times rows, V being the table of the VALUES: at (p, a), (p, b) the VALUE a - b of the place p."""
    found, ahead = [], 0
    for _, values in data:
        for a in range(len(values)):
            total = (NOUGHT,) * len(rows)
            for b in range(a + 1):
                total = tuple(plus(x, times(values[a - b], y)) for x, y in zip(total, rows[ahead + b]))
            found.append(total)
        ahead += len(values)
    return tuple(found)


def turned_rows(rows):
    """The rows as columns, all NUMBERs mirrored."""
    many = len(rows)
    return tuple(tuple(mirror(rows[k][at]) for k in range(many)) for at in range(many))


def value_table(data, table):
    """The TABLE V S V', S being the one that is passed."""
    # S is its own mirrored one, turned: so V times V S, mirrored and turned, is it.
    return times_values(data, turned_rows(times_values(data, table)))


def data_table(data, bound):
    """The table of DATA for a bound, not checked."""
    table = place_table(data)
    values = value_table(data, table)
    return tuple(tuple(less(scaled(x, bound), y) for x, y in zip(one, two)) for one, two in zip(table, values))


def first_value(data, place):
    """The first VALUE at a PLACE of DATA; None if it is none of them."""
    for told, values in data:
        if told == place:
            return values[0]
    return None


def has_values(data, quotient):
    """Whether the first coefficients of a QUOTIENT at the PLACEs are the VALUES, not checked."""
    return all(coefficients_at(quotient, place, len(values)) == values for place, values in data)


def many_values(data):
    """N: how many VALUES there are."""
    need_data(data)
    return count_of(data)


def table_of(data, bound=(1, 1)):
    """The table of DATA for the bound."""
    need_data(data)
    need_bound(bound)
    return data_table(data, bound)


def does_have(data, quotient):
    """Whether the first coefficients of the QUOTIENT at the PLACEs are the VALUES."""
    need_data(data)
    need_quotient(quotient)
    return has_values(data, quotient)


def joined(data, place, value):
    """DATA with the pair (PLACE, (VALUE,)) behind them."""
    need_data(data)
    need_place(place)
    need_number(value)
    if first_value(data, place) is not None:
        raise Alike()
    if count_of(data) >= MOST_VALUES:
        raise TooMany()
    return data + ((place, (value,)),)
