"""Beats: what comes out and what is done beat by beat in a loop, and the energy of NUMBERs."""

from withinrim.errors import InvalidNumbers
from withinrim.loops import need_process
from withinrim.numbers import is_number
from withinrim.plain import NOUGHT, ZERO, fraction_plus, less, plus, size_of, times
from withinrim.quotients import need_quotient

MOST_BEATS = 40


def need_numbers(given):
    """Refuse what is no tuple of up to 40 NUMBERs."""
    if not isinstance(given, tuple) or len(given) > MOST_BEATS:
        raise InvalidNumbers(None)
    for index, each in enumerate(given):
        if not is_number(each):
            raise InvalidNumbers(index)


def behind(row, told, first):
    """The sum of all NUMBERs of a ROW from the index first on, each times what was told so many beats ahead.

    The beat itself is the first one behind all that is told if first is 1, and the last one told if it is 0.
    """
    total = NOUGHT
    last = len(told) - 1 + first
    for at in range(first, min(len(row), last + 1)):
        total = plus(total, times(row[at], told[last - at]))
    return total


def beats(process, controller, disturbances):
    """The pairs (y_n, u_n): what comes out and what the controller does, for each of the disturbances."""
    need_process(process)
    need_quotient(controller)
    need_numbers(disturbances)
    (a, b), (c, d) = process, controller
    out, put, done = [], [], []
    for each in disturbances:
        put.append(less(behind(a, done, 1), behind(b, put, 1)))
        out.append(plus(each, put[-1]))
        done.append(less(NOUGHT, plus(behind(c, out, 0), behind(d, done, 1))))
    return tuple(zip(out, done))


def energy(numbers):
    """The sum of the sizes squared."""
    need_numbers(numbers)
    total = ZERO
    for each in numbers:
        total = fraction_plus(total, size_of(each))
    return total
