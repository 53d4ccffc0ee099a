"""ROWs: sums, products, division, common divisors, values, and back by n."""

from math import gcd

from withinrim.errors import InvalidCount, InvalidNumbers, InvalidRow, NotNow
from withinrim.numbers import is_number, is_whole, need_number
from withinrim.plain import (
    NOUGHT, UNIT, less, mirror, number_from, over, plus, times, trimmed, whole_parts, whole_product,
)

MOST_BACK = 100
# A prime, and a whole number whose square is - 1 but for multiples of it: so it can stand for i.
PRIME = 2305843009213693921
TURN = 583529827753931384


def is_row(value):
    """Whether it, whatever it is, is a ROW."""
    if not isinstance(value, tuple) or not all(is_number(each) for each in value):
        return False
    return not value or value[-1] != NOUGHT


def need_row(given):
    """Refuse what is no ROW."""
    if not is_row(given):
        raise InvalidRow(given)


def sum_of(row, other):
    """The sum of two ROWs, not checked."""
    short, long = (row, other) if len(row) < len(other) else (other, row)
    both = [plus(x, y) for x, y in zip(short, long)]
    return trimmed(both + list(long[len(short):]))


def negative(row):
    """The ROW with all signs changed, not checked."""
    return tuple(less(NOUGHT, each) for each in row)


def difference(row, other):
    """The first ROW less the other one, not checked."""
    return sum_of(row, negative(other))


def product_of(row, other):
    """The product of two ROWs, not checked."""
    # Over whole numbers each NUMBER of the product is reduced just once.
    a, b, m = whole_parts(row)
    c, d, n = whole_parts(other)
    straight, crossed = whole_product(a, c), whole_product(b, d)
    mixed, turned = whole_product(a, d), whole_product(b, c)
    bottom = m * n
    real = [x - y for x, y in zip(straight, crossed)]
    return tuple(number_from(x, y + z, bottom) for x, y, z in zip(real, mixed, turned))


def multiple(row, number):
    """The ROW times a NUMBER other than nought, not checked."""
    return tuple(times(each, number) for each in row)


def divided(row, other):
    """(FACTOR, REST) of a ROW over another one, not (), not checked."""
    rest = list(row)
    turn = over(UNIT, other[-1])
    many = max(0, len(row) - len(other) + 1)
    factor = [NOUGHT] * many
    for at in reversed(range(many)):
        step = times(rest[at + len(other) - 1], turn)
        factor[at] = step
        if step != NOUGHT:
            for k, each in enumerate(other):
                rest[at + k] = less(rest[at + k], times(step, each))
    return tuple(factor), trimmed(rest)


def normed(real, turned):
    """A row of whole pairs times a number, so that its last pair is a whole number above 0, the least one."""
    while real and real[-1] == 0 and turned[-1] == 0:
        real, turned = real[:-1], turned[:-1]
    if not real:
        return [], []
    x, y = real[-1], turned[-1]
    straight = [a * x + b * y for a, b in zip(real, turned)]
    crossed = [b * x - a * y for a, b in zip(real, turned)]
    shared = 0
    for each in straight + crossed:
        shared = gcd(shared, each)
    return [each // shared for each in straight], [each // shared for each in crossed]


def normed_rest(first, second):
    """The normed rest of one normed row over another one, not nought."""
    real, turned = first
    straight, crossed = second
    last = straight[-1]
    while len(real) >= len(straight):
        x, y = real[-1], turned[-1]
        shared = gcd(gcd(x, y), last)
        x, y, scale = x // shared, y // shared, last // shared
        ahead = len(real) - len(straight)
        real = [scale * each for each in real]
        turned = [scale * each for each in turned]
        for k, (c, d) in enumerate(zip(straight, crossed)):
            real[ahead + k] -= x * c - y * d
            turned[ahead + k] -= x * d + y * c
        real.pop()
        turned.pop()
    return normed(real, turned)


def by_prime(normed_row):
    """A normed row by the prime, i told by a whole number; as many numbers, also if the last one is 0."""
    return [(x + y * TURN) % PRIME for x, y in zip(normed_row[0], normed_row[1])]


def prime_rest(p, q):
    """A multiple of the rest of one row of whole numbers over another one, by the prime, q's last one not 0."""
    rest = list(p)
    while len(rest) >= len(q):
        top = rest.pop()
        ahead = len(rest) + 1 - len(q)
        rest = [each * q[-1] % PRIME for each in rest]
        for k, each in enumerate(q[:-1]):
            rest[ahead + k] = (rest[ahead + k] - top * each) % PRIME
    while rest and rest[-1] == 0:
        rest.pop()
    return rest


def surely_apart(first, second):
    """Whether two normed rows, not (), are seen by the prime to have no root in common; False tells nothing."""
    p, q = by_prime(first), by_prime(second)
    # Only if the prime keeps the degree of a row it keeps that of the row's divisors.
    if p[-1] == 0 or q[-1] == 0:
        return False
    while len(q) > 1:
        p, q = q, prime_rest(p, q)
    return len(q) == 1


def common(row, other):
    """The common divisor of two ROWs, not checked."""
    # Whole numbers without a common divisor keep the rests short, where fractions grow from rest to rest.
    real, turned, _ = whole_parts(row)
    first = normed(real, turned)
    real, turned, _ = whole_parts(other)
    second = normed(real, turned)
    # Most rows that are met have none, which numbers of one size show far sooner.
    if first[0] and second[0] and surely_apart(first, second):
        return (UNIT,)
    while second[0]:
        first, second = second, normed_rest(first, second)
    real, turned = first
    return tuple(number_from(x, y, real[-1]) for x, y in zip(real, turned))


def value_at(row, number):
    """The value of a ROW at a NUMBER, not checked."""
    total = NOUGHT
    for each in reversed(row):
        total = plus(times(total, number), each)
    return total


def first_at(row, number, many):
    """The first NUMBERs, so many where there are, of a ROW in powers of h at the NUMBER + h, not checked."""
    real, turned, bottom = whole_parts(row)
    across, up, m = whole_parts((number,))
    x, y, last = across[0], up[0], len(row) - 1
    # Taken at m times as far out, and times m as often as the degree tells, all is whole: each is reduced just once.
    power = 1
    for at in reversed(range(last)):
        power = power * m
        real[at], turned[at] = real[at] * power, turned[at] * power
    bottom = bottom * power
    found, scale = [], 1
    for done in range(min(many, len(row))):
        for at in reversed(range(done, last)):
            a, b = real[at + 1], turned[at + 1]
            real[at], turned[at] = real[at] + x * a - y * b, turned[at] + x * b + y * a
        found.append(number_from(real[done] * scale, turned[done] * scale, bottom))
        scale = scale * m
    return tuple(found)


def moved_to(row, number):
    """The NUMBERs of a ROW in powers of h at the NUMBER + h, not checked."""
    return first_at(row, number, len(row))


def mirror_row(row):
    """The ROW with all NUMBERs mirrored, not checked."""
    return tuple(mirror(each) for each in row)


def back_by(row, many):
    """The ROW back by many, from its degree on, not checked."""
    return trimmed([NOUGHT] * (many + 1 - len(row)) + [mirror(each) for each in reversed(row)])


def row_from(numbers):
    """The ROW of the NUMBERs without the noughts at their end."""
    if not isinstance(numbers, tuple):
        raise InvalidNumbers(None)
    for index, each in enumerate(numbers):
        if not is_number(each):
            raise InvalidNumbers(index)
    return trimmed(numbers)


def row_sum(row, other):
    """The sum of two ROWs."""
    need_row(row)
    need_row(other)
    return sum_of(row, other)


def row_less(row, other):
    """The first ROW less the other one."""
    need_row(row)
    need_row(other)
    return difference(row, other)


def row_product(row, other):
    """The product of two ROWs."""
    need_row(row)
    need_row(other)
    return product_of(row, other)


def row_divided(row, other):
    """(FACTOR, REST) of the first ROW over the other one."""
    need_row(row)
    need_row(other)
    if not other:
        raise NotNow()
    return divided(row, other)


def row_common(row, other):
    """The common divisor of two ROWs, its last NUMBER 1; () if both are ()."""
    need_row(row)
    need_row(other)
    return common(row, other)


def row_value(row, number):
    """The value of the ROW at the NUMBER."""
    need_row(row)
    need_number(number)
    return value_at(row, number)


def row_at(row, number):
    """The ROW of the coefficients in powers of h at the number + h."""
    need_row(row)
    need_number(number)
    return moved_to(row, number)


def row_back(row, many):
    """The ROW back by many: at i the mirrored NUMBER that it has at many - i."""
    need_row(row)
    if not is_whole(many) or many < 0 or many > MOST_BACK:
        raise InvalidCount(many)
    if many < len(row) - 1:
        raise NotNow()
    return back_by(row, many)


def mirrored_row(row):
    """The ROW with all NUMBERs mirrored."""
    need_row(row)
    return mirror_row(row)
