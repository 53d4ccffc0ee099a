"""Turns for a bound: where they lead, back, behind one another, apartness, and which turn leads what to what."""

from withinrim.errors import InvalidNumber, InvalidTurn
from withinrim.numbers import is_number, need_bound, need_number
from withinrim.plain import (
    NOUGHT, ONE, UNIT, fraction_over, less, mirror, order, over, part_of, plus, series_led, size_of, times, trimmed,
)


def is_any_turn(value):
    """Whether it, whatever it is, is a turn for some bound."""
    if not isinstance(value, tuple) or len(value) != 2:
        return False
    unit, centre = value
    return is_number(unit) and is_number(centre) and size_of(unit) == ONE


def is_turn_for(value, bound):
    """Whether it, whatever it is, is a turn for the bound, which is not checked."""
    return is_any_turn(value) and order(size_of(value[1]), bound) < 0


def need_turn(given, bound):
    """Refuse what is no turn for the bound."""
    if not is_turn_for(given, bound):
        raise InvalidTurn(given)


def need_number_below(given, bound):
    """Refuse what is no NUMBER whose size squared is below the bound."""
    if not is_number(given) or order(size_of(given), bound) >= 0:
        raise InvalidNumber(given)


def led_to(turn, number, bound):
    """Where a turn leads a NUMBER, not checked; None for nowhere."""
    found = series_led((number,), turn, bound)
    return None if found is None else found[0]


def back_of(turn):
    """The turn that leads back, not checked."""
    unit, centre = turn
    return (mirror(unit), less(NOUGHT, times(unit, centre)))


def one_turn(turn, other, bound):
    """Two turns behind one another as one, not checked."""
    (u, a), (v, b) = turn, other
    c = plus(u, part_of(times(b, mirror(a)), bound))
    unit = over(times(times(v, mirror(u)), c), mirror(c))
    return (unit, over(plus(times(u, a), b), c))


def is_turn(value, bound=(1, 1)):
    """Whether it, whatever it is, is a turn for the bound."""
    need_bound(bound)
    return is_turn_for(value, bound)


def led(turn, number, bound=(1, 1)):
    """Where the turn leads the number; None for nowhere."""
    need_bound(bound)
    need_turn(turn, bound)
    need_number(number)
    return led_to(turn, number, bound)


def back(turn):
    """The turn that leads back, of a turn for any bound."""
    if not is_any_turn(turn):
        raise InvalidTurn(turn)
    return back_of(turn)


def behind(turn, other, bound=(1, 1)):
    """First the turn, then the other one, as one."""
    need_bound(bound)
    need_turn(turn, bound)
    need_turn(other, bound)
    return one_turn(turn, other, bound)


def apartness(one, two, bound=(1, 1)):
    """The apartness of two NUMBERs, a fraction."""
    need_bound(bound)
    need_number_below(one, bound)
    need_number_below(two, bound)
    # Led to 0 by the turn of the one, the other one has this size squared over the bound.
    return fraction_over(size_of(led_to((UNIT, one), two, bound)), bound)


def turn_between(one, two, three, four, bound=(1, 1)):
    """Some turn that leads one to three and two to four; None if there is none."""
    need_bound(bound)
    for each in (one, two, three, four):
        need_number_below(each, bound)
    ahead, behind_it = led_to((UNIT, one), two, bound), led_to((UNIT, three), four, bound)
    if size_of(ahead) != size_of(behind_it):
        return None
    unit = UNIT if ahead == NOUGHT else over(behind_it, ahead)
    return one_turn((unit, one), back_of((UNIT, three)), bound)


def turn_quotient(turn, bound=(1, 1)):
    """The turn as a QUOTIENT."""
    need_bound(bound)
    need_turn(turn, bound)
    unit, centre = turn
    drawn = part_of(mirror(centre), bound)
    return ((less(NOUGHT, times(unit, centre)), unit), trimmed((UNIT, less(NOUGHT, drawn))))
