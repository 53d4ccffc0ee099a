"""Pictures of the values that go along at a PLACE, and of the PLACEs at which a value goes along."""

from math import isqrt

from withinrim.answers import values_told, word_with
from withinrim.data import has_place, need_data, need_place
from withinrim.errors import InvalidCount
from withinrim.numbers import is_whole, need_bound, need_number
from withinrim.plain import number_from, scaled, whole_parts
from withinrim.rows import value_at
from withinrim.steps import rows_along, walk

MOST_SIGNS = 60
SIGNS = {"many": "*", "one": "o", "none": "."}


def is_count(value):
    """Whether it, whatever it is, is a whole number from 1 to 60."""
    return is_whole(value) and value >= 1 and value <= MOST_SIGNS


def need_count(given):
    """Refuse what is no whole number from 1 to 60."""
    if not is_count(given):
        raise InvalidCount(given)


def parts_of(count):
    """The parts of a picture's numbers, times count, ascending."""
    return [2 * at + 1 - count for at in range(count)]


def side_for(bound):
    """The least whole number whose square is not below the bound."""
    n, m = bound
    return isqrt((n - 1) // m) + 1


def disc_at(found, count, side):
    """(ACROSS, UP, M, WEIGHT, EDGE), all whole, of a disc (CENTRE, SQUARE), or of None.

    The number X + Y i, times side and over count, lies in the disc exactly if WEIGHT times the sum of the squares of
    X M - ACROSS and of Y M - UP is up to EDGE.
    """
    if found is None:
        # No number at all is that near.
        return (0, 0, 1, 1, -1)
    across, up, m = whole_parts((found[0],))
    n, weight = found[1]
    return (across[0] * count, up[0] * count, m * side, weight, n * m * m * count * count)


def value_rows(data, place, count, bound):
    """The rows of the picture of values, not checked."""
    side, parts, lines = side_for(bound), parts_of(count), []
    across, up, m, weight, edge = disc_at(values_told(data, place, bound), count, side)
    for y in reversed(parts):
        line = ""
        for x in parts:
            gap = weight * ((x * m - across) * (x * m - across) + (y * m - up) * (y * m - up)) - edge
            if gap <= 0:
                line += "o" if gap == 0 else "*"
            else:
                reach = side * side * (x * x + y * y) * bound[1]
                line += "." if reach <= bound[0] * count * count else " "
        lines.append(line)
    return tuple(lines)


def stretched(rows, count):
    """The FOUR ROWS times one number, so that all is whole, and taken at count times as far out."""
    a, b, c, d = rows
    longest = max(len(a), len(b), len(c), len(d))
    factors = [whole_parts(a + b + c + d)[2]]
    while len(factors) < longest:
        factors.append(factors[-1] * count)
    return [tuple(scaled(each, (factors[longest - 1 - at], 1)) for at, each in enumerate(row)) for row in rows]


def values_picture(data, place, count, bound=(1, 1)):
    """The picture of the values that go along with DATA at the place."""
    need_data(data)
    need_place(place)
    need_count(count)
    need_bound(bound)
    return "".join([row + "\n" for row in value_rows(data, place, count, bound)])


def places_picture(data, number, count, bound=(1, 1)):
    """The picture of the PLACEs at which the number goes along with DATA."""
    need_data(data)
    need_number(number)
    need_count(count)
    need_bound(bound)
    pairs, left = walk(data, bound)
    # The FOUR ROWS tell the same times any number, and whole numbers need not be reduced.
    rows, parts, text = stretched(rows_along(pairs, bound), count), parts_of(count), ""
    for y in reversed(parts):
        for x in parts:
            if x * x + y * y >= count * count:
                text += " "
            elif has_place(data, number_from(x, y, count)):
                text += "@"
            else:
                numbers = [value_at(row, ((x, 1), (y, 1))) for row in rows]
                text += SIGNS[word_with(numbers, left, number, bound)]
        text += "\n"
    return text
