"""Steps of DATA for a bound: what is left behind each, the knots, the standing, and the four rows."""

from withinrim.data import need_data, need_place
from withinrim.errors import NotNow
from withinrim.numbers import need_bound, need_number
from withinrim.plain import (
    NOUGHT, UNIT, less, mirror, order, part_of, plus, scaled, series_led, series_over, series_product, size_of, times,
    trimmed, whole_parts,
)
from withinrim.rows import product_of, sum_of, value_at


def is_free(data, bound):
    """Whether the sizes squared of all first VALUES are below the bound."""
    return all(order(size_of(values[0]), bound) < 0 for _, values in data)


def stepped(data, bound):
    """The stepped DATA of DATA, not (), all of whose first VALUES are below the bound, not checked."""
    knot, told = data[0]
    found = []
    for place, values in data:
        turned = series_led(values, (UNIT, told[0]), bound)
        across = (less(UNIT, times(mirror(knot), place)), less(NOUGHT, mirror(knot)))
        if place == knot:
            rest = series_product(turned[1:], across)
        else:
            rest = series_over(series_product(turned, across), (less(place, knot), UNIT))
        if rest:
            found.append((place, rest))
    return tuple(found)


def walk(data, bound):
    """(KNOTS, LEFT): the knots and the DATA that are left behind the last step, not checked."""
    found, left = [], data
    while left and is_free(left, bound):
        place, values = left[0]
        found.append((place, values[0]))
        left = stepped(left, bound)
    return tuple(found), left


def word_of(left, bound):
    """The standing that the DATA left behind the last step tell."""
    if not left:
        return "many"
    number = left[0][1][0]
    if size_of(number) != bound:
        return "none"
    for _, values in left:
        if values[0] != number or any(each != NOUGHT for each in values[1:]):
            return "none"
    return "one"


def table_at(place, value, bound):
    """The step table of a knot, not checked."""
    drawn = part_of(mirror(value), bound)
    ahead, across = less(NOUGHT, place), less(NOUGHT, mirror(place))
    return (
        ((ahead, UNIT), trimmed((value, times(value, across)))),
        (trimmed((times(drawn, ahead), drawn)), trimmed((UNIT, across))),
    )


def multiplied(row, fraction):
    """A ROW times a fraction other than 0."""
    return tuple(scaled(each, fraction) for each in row)


def rows_along(pairs, bound):
    """The product of the step tables of knots in order, as (A, B, C, D)."""
    a, b, c, d, bottom = (UNIT,), (), (), (UNIT,), 1
    for place, value in pairs:
        (e, f), (g, h) = table_at(place, value, bound)
        # Over whole numbers nothing has to be reduced before the product stands.
        many = whole_parts(e + f + g + h)[2]
        e, f, g, h = [multiplied(each, (many, 1)) for each in (e, f, g, h)]
        a, b = sum_of(product_of(a, e), product_of(b, g)), sum_of(product_of(a, f), product_of(b, h))
        c, d = sum_of(product_of(c, e), product_of(d, g)), sum_of(product_of(c, f), product_of(d, h))
        bottom = bottom * many
    return tuple(multiplied(each, (1, bottom)) for each in (a, b, c, d))


def rows_at(pairs, place, bound):
    """The NUMBERs that (A, B, C, D) of knots have at a PLACE."""
    a, b, c, d = UNIT, NOUGHT, NOUGHT, UNIT
    for knot, value in pairs:
        (e, f), (g, h) = table_at(knot, value, bound)
        e, f, g, h = [value_at(each, place) for each in (e, f, g, h)]
        a, b = plus(times(a, e), times(b, g)), plus(times(a, f), times(b, h))
        c, d = plus(times(c, e), times(d, g)), plus(times(c, f), times(d, h))
    return a, b, c, d


def step(data, bound=(1, 1)):
    """The stepped DATA."""
    need_data(data)
    need_bound(bound)
    if not data or not is_free(data, bound):
        raise NotNow()
    return stepped(data, bound)


def knots(data, bound=(1, 1)):
    """The pairs (place, value) of the steps that are made."""
    need_data(data)
    need_bound(bound)
    return walk(data, bound)[0]


def standing(data, bound=(1, 1)):
    """The standing: "many", "one" or "none"."""
    need_data(data)
    need_bound(bound)
    return word_of(walk(data, bound)[1], bound)


def step_table(place, value, bound=(1, 1)):
    """The step table ((ROW, ROW), (ROW, ROW)) of the place and the value."""
    need_place(place)
    need_number(value)
    need_bound(bound)
    if order(size_of(value), bound) >= 0:
        raise NotNow()
    return table_at(place, value, bound)


def four_rows(data, bound=(1, 1)):
    """(A, B, C, D); None unless the standing is "many"."""
    need_data(data)
    need_bound(bound)
    found, left = walk(data, bound)
    return None if left else rows_along(found, bound)
