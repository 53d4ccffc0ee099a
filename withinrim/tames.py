"""Tame QUOTIENTs, whose real part is nowhere in the disc below 0, and DATA that tame series can have."""

from withinrim.data import count_of, need_data, place_table, times_values, turned_rows
from withinrim.errors import NotNow
from withinrim.helds import keeps_to
from withinrim.plain import ONE, UNIT, less, plus, series_over
from withinrim.quotients import brought_down, is_quotient, need_quotient
from withinrim.rows import difference, sum_of
from withinrim.squares import clearing


def held_behind(quotient):
    """(p - 1) / (p + 1) of a QUOTIENT p; None if that is nowhere or has no value at 0."""
    top, under = quotient
    below = sum_of(top, under)
    return brought_down(difference(top, under), below) if below else None


def held_if_tame(quotient):
    """The held (p - 1) / (p + 1) of a QUOTIENT p; None if p is not tame."""
    found = held_behind(quotient)
    return found if found is not None and keeps_to(found, ONE) else None


def table_for_tame(data):
    """V S + S V' of DATA, not checked."""
    rows = times_values(data, place_table(data))
    return tuple(tuple(plus(x, y) for x, y in zip(one, two)) for one, two in zip(rows, turned_rows(rows)))


def tame_behind(quotient):
    """(1 + f) / (1 - f) of a QUOTIENT f, not 1 at 0, not checked."""
    top, under = quotient
    return brought_down(sum_of(under, top), difference(under, top))


def held_pairs(data):
    """The DATA of (p - 1) / (p + 1) for p that has DATA, no first value being - 1, not checked."""
    found = []
    for place, values in data:
        above = (less(values[0], UNIT),) + values[1:]
        below = (plus(values[0], UNIT),) + values[1:]
        found.append((place, series_over(above, below)))
    return tuple(found)


def is_tame(value):
    """Whether it, whatever it is, is a QUOTIENT that is tame."""
    return is_quotient(value) and held_if_tame(value) is not None


def tame_of(quotient):
    """(1 + f) / (1 - f) of the held QUOTIENT f, not 1 at 0."""
    need_quotient(quotient)
    if not keeps_to(quotient, ONE) or quotient[0][:1] == (UNIT,):
        raise NotNow()
    return tame_behind(quotient)


def held_of(quotient):
    """(p - 1) / (p + 1) of the tame QUOTIENT p."""
    need_quotient(quotient)
    found = held_if_tame(quotient)
    if found is None:
        raise NotNow()
    return found


def tame_table(data):
    """V S + S V'."""
    need_data(data)
    return table_for_tame(data)


def tame_standing(data):
    """Whether many, one or none of the tame series have DATA: "many", "one" or "none"."""
    need_data(data)
    squares, _, at = clearing(table_for_tame(data))
    if at is not None:
        return "none"
    return "many" if len(squares) == count_of(data) else "one"


def held_data(data):
    """The DATA that (p - 1) / (p + 1) has for p that has these."""
    need_data(data)
    if any(values[0][0][0] < 0 for _, values in data):
        raise NotNow()
    return held_pairs(data)
