"""Pictures of the values that go along at a PLACE, and of the PLACEs at which a value goes along."""

from math import isqrt

from withinrim.answers import values_told, word_with
from withinrim.data import has_place, need_data, need_place
from withinrim.errors import InvalidCount
from withinrim.numbers import is_whole, need_bound, need_number
from withinrim.plain import less, number_from, order, scaled, size_of, whole_parts
from withinrim.rows import value_at
from withinrim.steps import rows_along, walk

MOST_SIGNS = 60
SIGNS = {"many": "*", "one": "o", "none": "."}


def is_count(value):
    """Whether it, whatever it is, is a whole number from 1 to 60."""
    return is_whole(value) and value >= 1 and value <= MOST_SIGNS


def need_count(given):
    """Refuse what is no whole number from 1 to 60."""
    if not is_count(given):
        raise InvalidCount(given)


def parts_of(count):
    """The parts of a picture's numbers, times count, ascending."""
    return [2 * at + 1 - count for at in range(count)]


def side_for(bound):
    """The least whole number whose square is not below the bound."""
    n, m = bound
    return isqrt((n - 1) // m) + 1


def sign_of_value(found, number, bound):
    """The sign of a NUMBER at a PLACE where the values are (CENTRE, SQUARE), or None for none."""
    if found is not None:
        centre, square = found
        side = order(size_of(less(number, centre)), square)
        if side <= 0:
            return "o" if side == 0 else "*"
    return "." if order(size_of(number), bound) <= 0 else " "


def value_rows(data, place, count, bound):
    """The rows of the picture of values, not checked."""
    found, side, parts, lines = values_told(data, place, bound), side_for(bound), parts_of(count), []
    for y in reversed(parts):
        numbers = [number_from(side * x, side * y, count) for x in parts]
        lines.append("".join([sign_of_value(found, each, bound) for each in numbers]))
    return tuple(lines)


def stretched(rows, count):
    """The FOUR ROWS times one number, so that all is whole, and taken at count times as far out."""
    a, b, c, d = rows
    longest = max(len(a), len(b), len(c), len(d))
    factors = [whole_parts(a + b + c + d)[2]]
    while len(factors) < longest:
        factors.append(factors[-1] * count)
    return [tuple(scaled(each, (factors[longest - 1 - at], 1)) for at, each in enumerate(row)) for row in rows]


def values_picture(data, place, count, bound=(1, 1)):
    """The picture of the values that go along with DATA at the place."""
    need_data(data)
    need_place(place)
    need_count(count)
    need_bound(bound)
    return "".join([row + "\n" for row in value_rows(data, place, count, bound)])


def places_picture(data, number, count, bound=(1, 1)):
    """The picture of the PLACEs at which the number goes along with DATA."""
    need_data(data)
    need_number(number)
    need_count(count)
    need_bound(bound)
    pairs, left = walk(data, bound)
    # The FOUR ROWS tell the same times any number, and whole numbers need not be reduced.
    rows, parts, text = stretched(rows_along(pairs, bound), count), parts_of(count), ""
    for y in reversed(parts):
        for x in parts:
            if x * x + y * y >= count * count:
                text += " "
            elif has_place(data, number_from(x, y, count)):
                text += "@"
            else:
                numbers = [value_at(row, ((x, 1), (y, 1))) for row in rows]
                text += SIGNS[word_with(numbers, left, number, bound)]
        text += "\n"
    return text
