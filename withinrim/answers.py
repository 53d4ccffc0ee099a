"""Answers: the QUOTIENTs up to a bound that have DATA, and the values that they can have elsewhere."""

from withinrim.data import first_value, need_data, need_place
from withinrim.errors import NotNow
from withinrim.helds import keeps_to
from withinrim.numbers import need_bound, need_number
from withinrim.plain import (
    UNIT, ZERO, fraction_less, fraction_over, fraction_times, less, mirror, order, over, part_of, plus, scaled, size_of,
    times,
)
from withinrim.quotients import brought_down, need_quotient
from withinrim.rows import negative, product_of, sum_of
from withinrim.steps import rows_along, rows_at, walk, word_of


def led_by(rows, quotient):
    """(A s + B) over (C s + D), s being the QUOTIENT, not checked; None if that is nowhere or has no value at 0."""
    a, b, c, d = rows
    top, under = quotient
    above = sum_of(product_of(a, top), product_of(b, under))
    below = sum_of(product_of(c, top), product_of(d, under))
    return brought_down(above, below) if below else None


def one_behind(pairs, left, bound):
    """The one QUOTIENT behind knots with a number left, not checked."""
    number = left[0][1][0]
    return led_by(rows_along(pairs, bound), ((number,), (UNIT,)))


def disc_of(numbers, bound):
    """(CENTRE, SQUARE) of the disc of values at a PLACE that is none of DATA's, the FOUR ROWS having these there."""
    a, b, c, d = numbers
    weight = fraction_less(size_of(d), fraction_times(bound, size_of(c)))
    centre = less(times(b, mirror(d)), scaled(times(a, mirror(c)), bound))
    square = fraction_times(bound, size_of(less(times(a, d), times(b, c))))
    return (part_of(centre, weight), fraction_over(square, fraction_times(weight, weight)))


def values_told(data, place, bound):
    """(CENTRE, SQUARE) of the values at a PLACE, not checked; None for the standing "none"."""
    pairs, left = walk(data, bound)
    word = word_of(left, bound)
    if word == "none":
        return None
    first = first_value(data, place)
    if first is not None:
        return (first, ZERO)
    numbers = rows_at(pairs, place, bound)
    if word == "many":
        return disc_of(numbers, bound)
    a, b, c, d = numbers
    number = left[0][1][0]
    return (over(plus(times(a, number), b), plus(times(c, number), d)), ZERO)


def fits_along(data, place, value, bound):
    """Whether some series up to the bound has DATA and the value at the place, not checked."""
    found = values_told(data, place, bound)
    return found is not None and order(size_of(less(value, found[0])), found[1]) <= 0


def rows_of_many(data, bound):
    """The FOUR ROWS of DATA; refused unless the standing is "many"."""
    pairs, left = walk(data, bound)
    if left:
        raise NotNow()
    return rows_along(pairs, bound)


def answer_for(data, quotient, bound):
    """The answer for a QUOTIENT, both not checked; refused unless the standing is "many" and it is up to the bound."""
    rows = rows_of_many(data, bound)
    if not keeps_to(quotient, bound):
        raise NotNow()
    return led_by(rows, quotient)


def back_from(data, quotient, bound):
    """What a QUOTIENT is the answer for, both not checked; None for none; refused unless the standing is "many"."""
    a, b, c, d = rows_of_many(data, bound)
    found = led_by((d, negative(b), negative(c), a), quotient)
    # The answers are those of all s up to the bound: so it is one exactly if what is told back is such an s.
    return found if found is not None and keeps_to(found, bound) else None


def one_for(data, bound):
    """The one QUOTIENT, not checked; None unless the standing is "one"."""
    pairs, left = walk(data, bound)
    return one_behind(pairs, left, bound) if word_of(left, bound) == "one" else None


def some_for(data, bound):
    """Some QUOTIENT up to the bound that has DATA, of seven VALUES, too, not checked; None if there is none."""
    pairs, left = walk(data, bound)
    word = word_of(left, bound)
    if word == "none":
        return None
    if word == "one":
        return one_behind(pairs, left, bound)
    return led_by(rows_along(pairs, bound), ((), (UNIT,)))


def word_with(numbers, left, value, bound):
    """The standing of DATA and of a value at a further PLACE together, not checked.

    The FOUR ROWS of DATA's knots have the NUMBERs there; left is what is left of DATA behind the knots.
    """
    word = word_of(left, bound)
    a, b, c, d = numbers
    if word == "one":
        number = left[0][1][0]
        fits = plus(times(a, number), b) == times(value, plus(times(c, number), d))
        return "one" if fits else "none"
    if word == "many":
        # The free series has to be (D f - B) / (A - C f) there, which decides as a value for no DATA does.
        above, below = less(times(d, value), b), less(a, times(c, value))
        side = order(size_of(above), fraction_times(bound, size_of(below)))
        word = "one" if side == 0 else "many" if side < 0 else "none"
    return word


def answer(data, quotient, bound=(1, 1)):
    """The answer (A s + B) / (C s + D) for the QUOTIENT s."""
    need_data(data)
    need_quotient(quotient)
    need_bound(bound)
    return answer_for(data, quotient, bound)


def told_back(data, quotient, bound=(1, 1)):
    """The s of which the QUOTIENT is the answer; None for one that is not up to the bound or has not DATA."""
    need_data(data)
    need_quotient(quotient)
    need_bound(bound)
    return back_from(data, quotient, bound)


def the_one(data, bound=(1, 1)):
    """The one QUOTIENT; None unless the standing is "one"."""
    need_data(data)
    need_bound(bound)
    return one_for(data, bound)


def some_answer(data, bound=(1, 1)):
    """Some QUOTIENT up to the bound that has DATA; None if there is none."""
    need_data(data)
    need_bound(bound)
    return some_for(data, bound)


def values_at(data, place, bound=(1, 1)):
    """(CENTRE, SQUARE) of the closed disc of the values at the place; None for the standing "none"."""
    need_data(data)
    need_place(place)
    need_bound(bound)
    return values_told(data, place, bound)


def goes_along(data, place, value, bound=(1, 1)):
    """Whether some series up to the bound has DATA and the value at the place."""
    need_data(data)
    need_place(place)
    need_number(value)
    need_bound(bound)
    return fits_along(data, place, value, bound)
