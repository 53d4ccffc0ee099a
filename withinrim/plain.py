"""Fractions, NUMBERs and rows without checks; whoever calls has checked what is passed."""

from math import gcd, lcm

ZERO = (0, 1)
ONE = (1, 1)
NOUGHT = ((0, 1), (0, 1))
UNIT = ((1, 1), (0, 1))


def reduced(n, m):
    """The fraction n / m, m not 0."""
    shared = gcd(n, m)
    if m < 0:
        shared = -shared
    return (n // shared, m // shared)


def fraction_plus(x, y):
    """x + y, both fractions."""
    return reduced(x[0] * y[1] + y[0] * x[1], x[1] * y[1])


def fraction_less(x, y):
    """x - y, both fractions."""
    return reduced(x[0] * y[1] - y[0] * x[1], x[1] * y[1])


def fraction_times(x, y):
    """x times y, both fractions."""
    return reduced(x[0] * y[0], x[1] * y[1])


def fraction_over(x, y):
    """x over y, both fractions, y not 0."""
    return reduced(x[0] * y[1], x[1] * y[0])


def order(x, y):
    """-1, 0 or 1 as the fraction x is below y, the same, above y."""
    left, right = x[0] * y[1], y[0] * x[1]
    if left == right:
        return 0
    return -1 if left < right else 1


def number_from(x, y, m):
    """The NUMBER (x + y i) / m, m not 0."""
    return (reduced(x, m), reduced(y, m))


def plus(x, y):
    """x + y, both NUMBERs."""
    return (fraction_plus(x[0], y[0]), fraction_plus(x[1], y[1]))


def less(x, y):
    """x - y, both NUMBERs."""
    return (fraction_less(x[0], y[0]), fraction_less(x[1], y[1]))


def times(x, y):
    """x times y, both NUMBERs."""
    # One common bottom for all parts asks for fewer divisors than four products of fractions do.
    (a, p), (b, q) = x
    (c, r), (d, s) = y
    a, b, c, d = a * q, b * p, c * s, d * r
    return number_from(a * c - b * d, a * d + b * c, p * q * r * s)


def mirror(x):
    """x', the NUMBER with the part of i turned round."""
    n, m = x[1]
    return (x[0], (-n, m))


def size_of(x):
    """The size squared of a NUMBER, a fraction."""
    (a, p), (b, q) = x
    a, b = a * q, b * p
    return reduced(a * a + b * b, p * p * q * q)


def scaled(x, fraction):
    """A NUMBER times a fraction."""
    return (fraction_times(x[0], fraction), fraction_times(x[1], fraction))


def part_of(x, fraction):
    """A NUMBER over a fraction above 0."""
    return scaled(x, (fraction[1], fraction[0]))


def over(x, y):
    """x over y, both NUMBERs, y not nought."""
    n, m = size_of(y)
    return scaled(times(x, mirror(y)), (m, n))


def trimmed(numbers):
    """The tuple of the NUMBERs without the noughts at its end."""
    last = len(numbers)
    while last > 0 and numbers[last - 1] == NOUGHT:
        last -= 1
    return tuple(numbers[:last])


def whole_parts(row):
    """(A, B, m): lists of whole numbers and one above 0 so that the NUMBERs are (A + B i) / m."""
    bottom = 1
    for (_, p), (_, q) in row:
        bottom = lcm(bottom, lcm(p, q))
    real = [n * (bottom // m) for (n, m), _ in row]
    turned = [n * (bottom // m) for _, (n, m) in row]
    return real, turned, bottom


def whole_product(p, q):
    """The product of two rows of whole numbers; both are lists."""
    if not p or not q:
        return []
    total = [0] * (len(p) + len(q) - 1)
    for i, x in enumerate(p):
        if x != 0:
            for j, y in enumerate(q):
                total[i + j] += x * y
    return total


def series_product(p, q):
    """The first coefficients of a product of series, as many as P tells; what Q does not tell counts as nought."""
    found = []
    for at in range(len(p)):
        total = NOUGHT
        for k in range(min(at + 1, len(q))):
            total = plus(total, times(p[at - k], q[k]))
        found.append(total)
    return tuple(found)


def series_over(p, q):
    """Those of one series over another one, likewise, the first NUMBER of Q not nought."""
    found = []
    for at in range(len(p)):
        total = p[at]
        for k in range(1, min(at + 1, len(q))):
            total = less(total, times(q[k], found[at - k]))
        found.append(over(total, q[0]))
    return tuple(found)


def series_led(series, turn, bound):
    """Those of a series, not (), led by a turn for the bound; None if its first one is led nowhere."""
    unit, centre = turn
    drawn = part_of(mirror(centre), bound)
    above = [times(unit, each) for each in (less(series[0], centre),) + series[1:]]
    below = [times(less(NOUGHT, drawn), each) for each in series]
    below[0] = plus(UNIT, below[0])
    return None if below[0] == NOUGHT else series_over(above, below)
