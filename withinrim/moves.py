"""DATA moved by turns of places and of values, and the pencil of their least bound."""

from withinrim.data import need_data, place_table, value_table
from withinrim.errors import NotNow
from withinrim.numbers import need_bound
from withinrim.plain import NOUGHT, ONE, UNIT, order, plus, series_led, series_product, size_of
from withinrim.turns import back_of, led_to, need_turn


def values_behind(values, way):
    """The first coefficients of f(way), as many as the VALUES that f has at the first coefficient of the way."""
    around = (NOUGHT,) + way[1:]
    total = (NOUGHT,) * len(values)
    for each in reversed(values):
        total = series_product(total, around)
        total = (plus(total[0], each),) + total[1:]
    return total


def with_places(data, turn):
    """DATA moved by a turn of places, not checked."""
    found = []
    for place, values in data:
        there = led_to(turn, place, ONE)
        way = series_led((there, UNIT, NOUGHT)[:len(values)], back_of(turn), ONE)
        found.append((there, values_behind(values, way)))
    return tuple(found)


def with_values(data, turn, bound):
    """DATA moved by a turn of values; refused if a first value is led nowhere."""
    found = []
    for place, values in data:
        there = series_led(values, turn, bound)
        if there is None:
            raise NotNow()
        found.append((place, there))
    return tuple(found)


def moved_places(data, turn):
    """The DATA of f(turn back) for f that has DATA."""
    need_data(data)
    need_turn(turn, ONE)
    return with_places(data, turn)


def moved_values(data, turn, bound=(1, 1)):
    """The DATA of f led by the turn, for f that has DATA."""
    need_bound(bound)
    need_data(data)
    need_turn(turn, bound)
    return with_values(data, turn, bound)


def to_noughts(data, bound=(1, 1)):
    """(PLACES, VALUES, DATA): the turns that lead the first place and its first value to 0, and DATA moved by both."""
    need_bound(bound)
    need_data(data)
    if not data or order(size_of(data[0][1][0]), bound) >= 0:
        raise NotNow()
    places, values = (UNIT, data[0][0]), (UNIT, data[0][1][0])
    return (places, values, with_places(with_values(data, values, bound), places))


def bound_pencil(data):
    """(S, V S V'), whose least is the least bound; ((), ()) for ()."""
    need_data(data)
    table = place_table(data)
    return (table, value_table(data, table))
