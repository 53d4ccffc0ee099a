"""How many roots of a ROW are in the disc, on the rim and beyond, counted without finding one."""

from withinrim.errors import NotNow
from withinrim.numbers import need_number
from withinrim.plain import NOUGHT, reduced, whole_parts
from withinrim.realrows import chain_of, changes_along, root_counts_of
from withinrim.rows import moved_to, need_row


def rim_parts(real, turned):
    """Lists P, Q of whole numbers with P + i Q = (1 - i x)^d times the row's value at (1 + i x) / (1 - i x).

    The row has the whole numbers of two lists of d + 1, not checked; so have P and Q, noughts at the end kept.
    """
    p, q = real[-1:], turned[-1:]
    power, crossed = [1], [0]
    for at in reversed(range(len(real) - 1)):
        power, crossed = times_side(power, crossed, -1)
        p, q = times_side(p, q, 1)
        a, b = real[at], turned[at]
        p = [each + a * x - b * y for each, x, y in zip(p, power, crossed)]
        q = [each + a * y + b * x for each, x, y in zip(q, power, crossed)]
    return p, q


def times_side(p, q, sign):
    """P + i Q times 1 + i x (sign 1) or 1 - i x (sign -1)."""
    first = [x - sign * y for x, y in zip(p + [0], [0] + q)]
    second = [y + sign * x for x, y in zip([0] + p, q + [0])]
    return first, second


def real_row_of(numbers, bottom):
    """The REAL ROW of whole numbers over one above 0, without the noughts at the end."""
    last = len(numbers)
    while last > 0 and numbers[last - 1] == 0:
        last -= 1
    return tuple(reduced(each, bottom) for each in numbers[:last])


def counts_in(row):
    """How many roots of a ROW, not (), are in the disc, on the rim, beyond, not checked."""
    real, turned, _ = whole_parts(row)
    within = times_nought(row)
    p, q = rim_parts(real[within:], turned[within:])
    degree = len(p) - 1
    while p[-1] == 0 and q[-1] == 0:
        p, q = p[:-1], q[:-1]
    a, b = p[-1], q[-1]
    upper = [x * a + y * b for x, y in zip(p, q)]
    side = [y * a - x * b for x, y in zip(p, q)]
    chain = chain_of(upper, side)
    leaps_along = changes_along(chain)
    on_line = sum(root_counts_of(chain[-1]))
    many = len(p) - 1
    below = (many - leaps_along - on_line) // 2
    above = (many + leaps_along - on_line) // 2
    return (within + below, on_line + degree - many, above)


def times_nought(row):
    """How often nought is a root of a ROW, not (), not checked."""
    many = 0
    while row[many] == NOUGHT:
        many += 1
    return many


def closed_count(row):
    """How many roots of a ROW, not (), are in the closed disc, not checked."""
    within, on_rim, _ = counts_in(row)
    return within + on_rim


def rim_rows(row):
    """REAL ROWs (P, Q) with P + i Q = (1 - i x)^d times the ROW's value at (1 + i x) / (1 - i x), d its degree."""
    need_row(row)
    if not row:
        raise NotNow()
    real, turned, bottom = whole_parts(row)
    p, q = rim_parts(real, turned)
    return (real_row_of(p, bottom), real_row_of(q, bottom))


def root_counts(row):
    """How many roots are in the disc, on the rim, beyond, each as often as it is one."""
    need_row(row)
    if not row:
        raise NotNow()
    return counts_in(row)


def times_root(row, number):
    """How often the NUMBER is a root of the ROW."""
    need_row(row)
    need_number(number)
    if not row:
        raise NotNow()
    return times_nought(moved_to(row, number))
