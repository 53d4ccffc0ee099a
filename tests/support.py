"""What the tests share: exact numbers of their own to compare with, made rows, wrong values, and refusals."""

import copy
import random
from fractions import Fraction
from math import comb, gcd


class Pair:
    """A number re + im i of Fractions: the tests' own arithmetic, apart from the package's."""

    def __init__(self, re, im=0):
        self.re, self.im = Fraction(re), Fraction(im)

    def __add__(self, other):
        return Pair(self.re + other.re, self.im + other.im)

    def __sub__(self, other):
        return Pair(self.re - other.re, self.im - other.im)

    def __mul__(self, other):
        return Pair(self.re * other.re - self.im * other.im, self.re * other.im + self.im * other.re)

    def __truediv__(self, other):
        under = other.size()
        above = self * other.mirrored()
        return Pair(above.re / under, above.im / under)

    def __eq__(self, other):
        return self.re == other.re and self.im == other.im

    def mirrored(self):
        return Pair(self.re, -self.im)

    def size(self):
        return self.re * self.re + self.im * self.im

    def number(self):
        return (told(self.re), told(self.im))


def told(fraction):
    """A Fraction as a fraction of the package."""
    return (fraction.numerator, fraction.denominator)


def frac(fraction):
    """A fraction of the package as a Fraction."""
    return Fraction(fraction[0], fraction[1])


def pair(number):
    """A NUMBER as a Pair."""
    return Pair(frac(number[0]), frac(number[1]))


def num(re, im=0):
    """The NUMBER re + im i of whole numbers or Fractions."""
    return Pair(re, im).number()


def row(*numbers):
    """A ROW of whole numbers, Fractions, Pairs and NUMBERs, noughts at the end kept."""
    return tuple(as_number(each) for each in numbers)


def as_number(each):
    if isinstance(each, Pair):
        return each.number()
    if isinstance(each, tuple):
        return each
    return num(each)


def real(*fractions):
    """A REAL ROW of whole numbers and Fractions."""
    return tuple(told(Fraction(each)) for each in fractions)


def cut(pairs):
    """The ROW of a list of Pairs."""
    pairs = list(pairs)
    while pairs and pairs[-1] == Pair(0):
        pairs.pop()
    return tuple(each.number() for each in pairs)


def value_of(some_row, at):
    """The value of a ROW at a Pair, power by power."""
    total, power = Pair(0), Pair(1)
    for each in some_row:
        total = total + pair(each) * power
        power = power * at
    return total


def times_rows(one, other):
    """The product of two ROWs, by the tests' own arithmetic."""
    if not one or not other:
        return ()
    total = [Pair(0)] * (len(one) + len(other) - 1)
    for i, x in enumerate(one):
        for j, y in enumerate(other):
            total[i + j] = total[i + j] + pair(x) * pair(y)
    return cut(total)


def from_roots(roots, last=1):
    """The ROW with these roots (Pairs, whole numbers, Fractions or NUMBERs) and this last number."""
    made = (as_number(last),)
    for root in roots:
        made = times_rows(made, row(Pair(0) - pair(as_number(root)), 1))
    return made


def times_reals(one, other):
    """The product of two REAL ROWs."""
    if not one or not other:
        return ()
    total = [Fraction(0)] * (len(one) + len(other) - 1)
    for i, x in enumerate(one):
        for j, y in enumerate(other):
            total[i + j] += frac(x) * frac(y)
    return tuple(told(each) for each in total)


def real_from_roots(roots, last=1):
    """The REAL ROW with these roots and this last fraction."""
    made = (told(Fraction(last)),)
    for root in roots:
        made = times_reals(made, real(-Fraction(root), 1))
    return made


def real_value_of(some, at):
    """The value of a REAL ROW at a Fraction, as a Fraction."""
    return sum((frac(each) * at ** k for k, each in enumerate(some)), Fraction(0))


def rim(x):
    """The rim number of a whole number or a Fraction, as a Pair."""
    return Pair(1, x) / Pair(1, -Fraction(x))


def reduced_fraction(value):
    """Whether a value is a pair of whole numbers, reduced, the lower one above 0."""
    return (type(value) is tuple and len(value) == 2 and all(type(each) is int for each in value)
            and value[1] > 0 and gcd(value[0], value[1]) == 1)


def reduced_number(value):
    """Whether a value is a pair of reduced fractions."""
    return type(value) is tuple and len(value) == 2 and all(reduced_fraction(each) for each in value)


def some_fraction(source, top=9, bottom=6):
    """Any Fraction of a random source."""
    return Fraction(source.randint(-top, top), source.randint(1, bottom))


def some_pair(source, top=9, bottom=6):
    """Any Pair of a random source."""
    return Pair(some_fraction(source, top, bottom), some_fraction(source, top, bottom))


def some_row(source, most):
    """Any ROW of up to so many NUMBERs."""
    return cut([some_pair(source) for _ in range(source.randint(0, most))])


def nested(deep):
    """A tuple in tuples, so many deep."""
    value = 1
    for _ in range(deep):
        value = (value,)
    return value


# No fractions, NUMBERs, ROWs, TABLEs, QUOTIENTs or whole numbers, whatever is asked for; and what is nearly one.
STRANGE = (
    None, "", "1", "1/2", b"", b"12", [], [1, 1], [(1, 1), (0, 1)], {}, {0: (1, 1)}, {(0, 1): 1}, set(), {1, 2},
    frozenset((1, 2)), range(2), object(), len, Fraction(1, 2), nested(20), (None,), (None, None), ("1", "2"),
    ([1, 1], [0, 1]), ({}, {}), (1, None), (1, [2]), ((1, 1), None), ((1, 1), "0"), (((1, 1), (0, 1)), None),
)
BOOLS = (True, False)
WRONG_WHOLES = STRANGE + BOOLS + ((1, 1), (), ((0, 1), (0, 1)))
WRONG_FRACTIONS = STRANGE + BOOLS + (
    0, 1, -7, (), (1,), (1, 1, 1), (1, 0), (0, 0), (1, -2), (-1, -2), (0, 2), (2, 4), (3, 3), (6, -4), (True, 1),
    (1, True), (False, 1), (True, True), (1, 2, 3), [1, 2], ((1, 1), (0, 1)), ((1, 1),), ("1", 1), (1, "2"), (1, (2,)),
    (10 ** 200, 10 ** 100),
)
WRONG_BOUNDS = WRONG_FRACTIONS + ((0, 1), (-1, 1), (-1, 10 ** 50))
WRONG_NUMBERS = STRANGE + BOOLS + (
    0, 1, (), (1, 1), (0, 1), ((1, 1),), ((1, 1), (0, 1), (0, 1)), ((1, 1), (0, 2)), ((2, 2), (0, 1)), ((1, 0), (0, 1)),
    ((1, 1), 0), (1, (0, 1)), ((1, 1), [0, 1]), [(1, 1), (0, 1)], ((True, 1), (0, 1)), ((1, 1), (False, 1)),
    ((1, 1), (1, -1)), (((1, 1), (0, 1)),), ((1, 1), (0, 1, 1)),
)
ONE = ((1, 1), (0, 1))
WRONG_FACTORS = WRONG_NUMBERS + (num(0),)
WRONG_ROWS = STRANGE + BOOLS + (
    0, 1, (1, 1), ONE, [ONE], (ONE, [ONE]), (ONE, num(0)), (num(0),), (num(0), num(0)), (ONE, (1, 1)), (1, ONE),
    (ONE, ((2, 2), (0, 1))), (ONE, None), (ONE, True), ((ONE, ONE),), (((1, 1), (0, 1), (0, 1)),), (((True, 1), (0, 1)),),
)
WRONG_REALS = STRANGE + BOOLS + (
    0, 1, (1, 1), ONE, [(1, 1)], ((1, 1), [1, 1]), ((1, 1), (0, 1)), ((0, 1),), ((2, 2),), ((1, 1), (2, 4)), ((1, 0),),
    ((1, 1), 1), (1,), (ONE,), ((1, 1), None), ((1, 1), True), ((True, 1),), ((1, 1), (1, -1)),
)
WRONG_NUMBER_TUPLES = tuple((each, None) for each in STRANGE if type(each) is not tuple) + (
    (True, None), (0, None), ([ONE], None), ((1,), 0), ((ONE, 1), 1), ((ONE, ONE, (1, 1), None), 2), ((None,), 0),
    ((ONE, ((2, 2), (0, 1))), 1), ((ONE, True), 1), (("ab",), 0), (nested(20), 0), ((ONE, [ONE]), 1), (ONE, 0),
)
HALF = num(Fraction(1, 2))
WRONG_QUOTIENTS = STRANGE + BOOLS + (
    0, (), ((), ()), (ONE, ONE), ((ONE,),), ((ONE,), (ONE,), (ONE,)), [(ONE,), (ONE,)], ([ONE], (ONE,)), ((ONE,), [ONE]),
    ((ONE,), ()), ((), (HALF,)), ((), (ONE, ONE)), ((ONE,), (num(2),)), ((ONE,), (num(0), ONE)), ((ONE,), (num(-1),)),
    ((num(0),), (ONE,)), ((ONE,), (ONE, num(0))), ((ONE, ONE), (ONE, ONE)), ((num(2), num(2)), (ONE, ONE)),
    (row(-1, 0, 1), row(1, 1)), (row(0, 1, 1), row(1, 0, -1)), ((ONE,), (num(0, 1),)), ((ONE,), ONE), (None, (ONE,)),
    ((ONE,), (True,)), (((True, 1), (0, 1)), (ONE,)), (((ONE,), (ONE,)), (ONE,)),
)
WRONG_PLACES = WRONG_NUMBERS + (
    ONE, num(-1), num(0, 1), num(Fraction(3, 5), Fraction(4, 5)), num(2), num(0, -3), num(1, 1),
    num(Fraction(10 ** 30 + 1, 10 ** 30)), num(Fraction(4, 5), Fraction(61, 100)),
)
WRONG_DATA = tuple((each, None) for each in STRANGE if type(each) is not tuple) + (
    (True, None), (0, None), ([(num(0), (ONE,))], None), (((num(0), (ONE,)),) * 7, None), ((None,) * 7, None),
    (nested(20), 0), ((None,), 0), (ONE, 0), ((num(0), (ONE,)), 0), ((((1, 2), (0, 1)),), 0), (((num(0),),), 0),
    (((num(0), (ONE,), ()),), 0), (([num(0), (ONE,)],), 0), (((num(0), ()),), 0), (((num(0), [ONE]),), 0),
    (((num(0), ONE),), 0), (((num(0), (ONE,) * 4),), 0), (((ONE, (ONE,)),), 0), (((num(2), (ONE,)),), 0),
    (((num(0), (None,)),), 0), (((num(0), (ONE, True)),), 0), (((num(0), (ONE, ((2, 2), (0, 1)))),), 0),
    (((0, (ONE,)),), 0), (((num(0), (ONE,)), None), 1), (((num(0), (ONE,)), (num(0), (ONE,))), 1),
    (((num(0), (ONE,)), (HALF, (ONE,)), (num(0), (num(2),))), 2), (((num(0), (ONE,)), (num(0, 1), (ONE,))), 1),
    (((num(0), (ONE,) * 3), (HALF, (ONE,) * 3), (num(Fraction(1, 3)), (ONE,))), 2),
    (((num(0), (ONE,) * 3), (HALF, (ONE,) * 3), (num(0, Fraction(1, 2)), (ONE,))), 2),
    (((num(0), (ONE,) * 3), (HALF, (ONE,) * 2), (num(0, Fraction(1, 2)), (ONE,) * 2)), 2),
    (tuple((num(Fraction(k, 9)), (ONE,)) for k in range(5)) + ((HALF, (ONE, ONE)),), 5),
    (((num(0), (ONE,)), (HALF, (ONE, (1, 1)))), 1), (((num(0), (ONE,)), ()), 1), (((num(0), (1,)),), 0),
)
NOUGHT = num(0)
WRONG_TURNS = STRANGE + BOOLS + (
    0, (), (1, 1), ONE, (ONE,), (ONE, NOUGHT, NOUGHT), [ONE, NOUGHT], (HALF, NOUGHT), (NOUGHT, NOUGHT), (num(2), NOUGHT), (num(1, 1), NOUGHT),
    (ONE, None), (None, NOUGHT), (ONE, 0), (1, NOUGHT), ([ONE[0], ONE[1]], NOUGHT), (ONE, list(NOUGHT)), (ONE, ((2, 2), (0, 1))),
    (((True, 1), (0, 1)), NOUGHT), (num(Fraction(10 ** 30, 10 ** 30 + 1)), NOUGHT), (ONE, True), (ONE, (0, 1)),
)
TOO_FAR = ((ONE, ONE), (ONE, num(0, 1)), (ONE, num(2)), (num(0, 1), num(Fraction(3, 5), Fraction(-4, 5))), (ONE, num(0, Fraction(10 ** 20 + 1, 10 ** 20))))
WRONG_TABLES = tuple((each, None) for each in STRANGE if type(each) is not tuple) + (
    (True, None), (0, None), ((1, 2), 0), ([(ONE,)], None), ((row(1, 0, 0, 0, 0, 0, 0),) * 7, None), ((None,) * 7, None),
    (nested(20), 0), ((None,), 0), (([ONE],), 0), ((ONE,), 0), (((),), 0), ((row(1, 1),), 0), ((row(Pair(0, 1)),), 0),
    ((row(1, 1), row(1, 1), ()), 0), ((row(1, 0), row(1)), 1), ((row(1, 0), [num(0), ONE]), 1), ((row(1, 0), None), 1),
    ((row(1, 2), row(3, 1)), 1), ((row(1, Pair(0, 1)), row(Pair(0, 1), 1)), 1), ((row(1, 0), row(0, Pair(1, 1))), 1),
    ((row(1, 0), (num(0), True)), 1), ((row(1, 0), (num(0), ((2, 2), (0, 1)))), 1), ((row(1, 0), (0, 1)), 1),
    ((row(1, 0, 0), row(0, 1, 0), row(0, 1, 1)), 2), ((row(1, 0, 5), row(0, 1, 0), row(0, 0, 1)), 2),
    ((row(1, 0, 5), row(0, 1, 0), row(5, 0)), 2), ((row(Pair(1, 1), 0), None), 0), ((row(0, 1), (num(0, 1), num(0))), 1),
)


def wrong_mixes_of(many, right):
    """What is no mix of so many, with the index; right is one."""
    return tuple((each, None) for each in STRANGE if type(each) is not tuple) + (
        (True, None), (0, None), (list(right), None), (right + (ONE,), None), (right[:-1], None), (ONE * many, None),
        ((None,) * many, 0), (right[:-1] + (None,), many - 1), (right[:-1] + (True,), many - 1),
        (right[:-1] + ((1, 1),), many - 1), (right[:-1] + ([ONE],), many - 1), (nested(20) + right[1:], 0),
        (right[:-1] + (((2, 2), (0, 1)),), many - 1), ((1,) + right[1:-1] + (2,), 0),
    )


def wrong_lots_of_mixes(right):
    """What is no tuple of up to 6 mixes, with the index; right is a mix."""
    return tuple((each, None) for each in STRANGE if type(each) is not tuple) + (
        (True, None), (7, None), ([right], None), ((right,) * 7, None), ((None,) * 7, None), ((None,), 0),
        ((right, list(right)), 1), ((right, right + (ONE,)), 1), ((right, right[:-1], None), 1), ((right, ()), 1),
        ((right,) * 5 + (right[:-1] + (True,),), 5), (right, 0), (((2, 1),), 0), ((right, nested(19)), 1),
    )


def plain_table(rows):
    """The TABLE of rows of Pairs."""
    return tuple(tuple(each.number() for each in some) for some in rows)


def made_by(squares, many):
    """The TABLE of so many rows that pairs of a weight and a mix make, by the tests' own arithmetic."""
    total = [[Pair(0)] * many for _ in range(many)]
    for weight, mix in squares:
        for i in range(many):
            for j in range(many):
                total[i][j] = total[i][j] + Pair(frac(weight)) * pair(mix[i]) * pair(mix[j]).mirrored()
    return plain_table(total)


def out_of(table, mix, other=None):
    """What a mix comes out as in a TABLE, alone or with another one, as a Pair."""
    total = Pair(0)
    for i, x in enumerate(mix):
        for j, y in enumerate(mix if other is None else other):
            total = total + pair(x) * pair(table[i][j]) * pair(y).mirrored()
    return total


def rank_of_rows(rows):
    """How many rows are independent, by the tests' own arithmetic."""
    rows, rank = [[pair(each) for each in some] for some in rows], 0
    for column in range(len(rows[0]) if rows else 0):
        lead = next((k for k in range(rank, len(rows)) if rows[k][column].size() != 0), None)
        if lead is None:
            continue
        rows[rank], rows[lead] = rows[lead], rows[rank]
        for k in range(rank + 1, len(rows)):
            factor = rows[k][column] / rows[rank][column]
            rows[k] = [x - factor * y for x, y in zip(rows[k], rows[rank])]
        rank += 1
    return rank


def some_mix(source, many, top=3):
    """Any mix of so many."""
    return tuple(some_pair(source, top, 3).number() for _ in range(many))


def some_table(source, many, signs):
    """A TABLE of so many rows with the counts of a list of signs, and these counts."""
    while True:
        mixes = [some_mix(source, many) for _ in signs]
        if rank_of_rows(mixes) == len(mixes):
            break
    squares = [(told(sign * Fraction(source.randint(1, 5), source.randint(1, 4))), mix) for sign, mix in zip(signs, mixes)]
    above = sum(1 for sign in signs if sign > 0)
    return made_by(squares, many), (above, many - len(signs), len(signs) - above)


def made_quotient(top, under):
    """A QUOTIENT of a TOP and an UNDER without a common divisor, divided by the first NUMBER of UNDER."""
    first = pair(under[0])
    return tuple((pair(each) / first).number() for each in top), tuple((pair(each) / first).number() for each in under)


def quotient_at(quotient, at):
    """The value of a QUOTIENT at a Pair, which is no root of UNDER."""
    return value_of(quotient[0], at) / value_of(quotient[1], at)


def rim_one(factor, roots):
    """The factor times the product of (z - a) / (1 - a' z) over the roots, Pairs; all in the tests' own arithmetic."""
    top, under = row(factor), row(1)
    for root in roots:
        top = times_rows(top, row(Pair(0) - root, 1))
        under = times_rows(under, row(1, Pair(0) - root.mirrored()))
    return top, under


def powers_at(some, at, many):
    """So many coefficients of a ROW in powers of h at the Pair + h, as Pairs."""
    found = []
    for low in range(many):
        total, power = Pair(0), Pair(1)
        for k in range(low, len(some)):
            total = total + pair(some[k]) * power * Pair(comb(k, low))
            power = power * at
        found.append(total)
    return found


def series_at(quotient, at, many):
    """So many coefficients of a QUOTIENT at a Pair, which is no root of UNDER, as NUMBERs."""
    above, below = powers_at(quotient[0], at, many), powers_at(quotient[1], at, many)
    found = []
    for k in range(many):
        rest = above[k]
        for j in range(k):
            rest = rest - found[j] * below[k - j]
        found.append(rest / below[0])
    return tuple(each.number() for each in found)


def data_from(quotient, shape):
    """The DATA that a QUOTIENT has at the places of a list of pairs (Pair, how many)."""
    return tuple((place.number(), series_at(quotient, place, many)) for place, many in shape)


def some_places(source, many, bottoms=(2, 3, 4, 5), inside=1):
    """So many unlike Pairs in the disc."""
    found = []
    while len(found) < many:
        bottom = source.choice(bottoms)
        made = Pair(Fraction(source.randint(-bottom, bottom), bottom), Fraction(source.randint(-bottom, bottom), bottom))
        if made.size() < inside and not any(made == each for each in found):
            found.append(made)
    return found


def some_number(source, bound):
    """Any Pair whose size squared is below the bound."""
    while True:
        made = some_pair(source, 9, 7)
        if made.size() < bound:
            return made
        made = made * Pair(Fraction(1, source.randint(2, 30)))
        if made.size() < bound:
            return made


def some_turn(source, bound):
    return (rim(Fraction(source.randint(-9, 9), source.randint(1, 5))).number(), some_number(source, bound).number())


def own_led(turn, z, bound):
    """Where a turn leads a Pair, as a Pair; None for nowhere."""
    unit, centre = pair(turn[0]), pair(turn[1])
    under = Pair(1) - centre.mirrored() * z / Pair(bound)
    return None if under == Pair(0) else unit * (z - centre) / under


SHAPES = ((1,), (2,), (3,), (1, 1), (2, 1), (1, 2), (1, 1, 1), (3, 1), (2, 2), (1, 3, 1), (1, 1, 1, 1), (2, 1, 2),
          (1, 1, 1, 1, 1), (3, 3), (2, 2, 2), (1, 2, 3), (1, 1, 1, 1, 1, 1), (1, 1, 1, 1, 2))


def shape_at(source, counts):
    """Unlike places with so many VALUES each."""
    return list(zip(some_places(source, len(counts)), counts))


def plain_product(one, other):
    """The product of two tables of Pairs, as lists of rows."""
    return [[sum_pairs(x * row_of[k] for x, row_of in zip(line, other)) for k in range(len(other[0]))] for line in one]


def sum_pairs(pairs):
    total = Pair(0)
    for each in pairs:
        total = total + each
    return total


def indexes_of(data):
    return [(pair(place), a, values) for place, values in data for a in range(len(values))]


KERNELS = {}


def kernel_by_h(z, y, a, b):
    """The coefficient of h^a times the mirrored k to b in 1 / (1 - (z + h)(y + k)'), by clearing the lower part."""
    if a < 0 or b < 0:
        return Pair(0)
    key = (z.number(), y.number(), a, b)
    if key not in KERNELS:
        total = Pair(1 if a == b == 0 else 0)
        total = total + y.mirrored() * kernel_by_h(z, y, a - 1, b) + z * kernel_by_h(z, y, a, b - 1)
        KERNELS[key] = (total + kernel_by_h(z, y, a - 1, b - 1)) / (Pair(1) - z * y.mirrored())
    return KERNELS[key]


def own_tables(data):
    """(S, V) of DATA as lists of rows of Pairs, by the tests' own arithmetic."""
    told_at = indexes_of(data)
    s = [[kernel_by_h(z, y, a, b) for y, b, _ in told_at] for z, a, _ in told_at]
    v = [[pair(values[a - b]) if z == y and b <= a else Pair(0) for y, b, _ in told_at] for z, a, values in told_at]
    return s, v


def turned_over(rows):
    return [[each.mirrored() for each in column] for column in zip(*rows)]


def own_value_table(data):
    """(S, V S V') of DATA as TABLEs, by the tests' own arithmetic."""
    if not data:
        return (), ()
    s, v = own_tables(data)
    return plain_table(s), plain_table(plain_product(plain_product(v, s), turned_over(v)))


def own_table(data, bound):
    """t S - V S V' as a TABLE, by the tests' own arithmetic; bound is a Fraction."""
    s, r = own_value_table(data)
    return plain_table([[Pair(bound) * pair(x) - pair(y) for x, y in zip(one, two)] for one, two in zip(s, r)])


def mirrored_data(data):
    """DATA with all NUMBERs mirrored."""
    return tuple((pair(place).mirrored().number(), tuple(pair(each).mirrored().number() for each in values))
                 for place, values in data)


def mirrored_row_of(some):
    return tuple(pair(each).mirrored().number() for each in some)


def given(error, values):
    """What a parameter refuses: the error, its attribute, and pairs of a wrong value and what the attribute is."""
    return (error, "given", tuple((value, value) for value in values))


def indexed(error, pairs):
    """Likewise, for an error with an index."""
    return (error, "index", tuple(pairs))


def same(one, other):
    """Whether two values are one, or alike with the same kinds of values in them."""
    return one is other or (type(one) is type(other) and one == other)


def refused(case, error, attribute, expected, call, *args, **named):
    """Assert that a call raises just this error, with this attribute (None: without one)."""
    kept = [copy.copy(each) if isinstance(each, (list, dict, set)) else each for each in args]
    told_as = f"{getattr(call, '__name__', call)}{args!r}"[:300]
    try:
        answer = call(*args, **named)
    except ValueError as caught:
        case.assertIs(type(caught), error, told_as)
        if attribute is not None:
            case.assertTrue(same(getattr(caught, attribute), expected), told_as)
    else:
        case.fail(f"{told_as} {named!r} returned {answer!r}"[:600])
    for one, other in zip(kept, args):
        case.assertEqual(one, other)


def outcome(call, *args):
    """What a call returns, or the class and the attributes of what it raises."""
    try:
        return ("returned", call(*args))
    except ValueError as caught:
        return ("raised", type(caught), vars(caught))


def check_bound_left_out(case, call, *args):
    """Assert that the bound, left out, is (1, 1); with the arguments that are passed another one tells otherwise."""
    case.assertEqual(outcome(call, *args), outcome(call, *args, (1, 1)))
    for other in ((2, 1), (1, 2)):
        case.assertNotEqual(outcome(call, *args), outcome(call, *args, other), (call, args, other))


def check_refusals(case, call, parameters, order=None):
    """Try each wrong value at each place, alone and ahead of wrong ones behind it, by position and by name.

    parameters: tuples of a name, what it refuses (given, indexed), and a right value; order: the indexes of the
    parameters as they are checked, where that is not the order in which they stand.
    """
    order = list(range(len(parameters))) if order is None else order
    for rank, at in enumerate(order):
        error, attribute, pairs = parameters[at][1]
        for value, expected in pairs:
            args = [right for _, _, right in parameters]
            args[at] = value
            refused(case, error, attribute, expected, call, *args)
            refused(case, error, attribute, expected, call, **dict(zip([each[0] for each in parameters], args)))
            for later in order[rank + 1:]:
                args[later] = parameters[later][1][2][0][0]
            refused(case, error, attribute, expected, call, *args)


# Plants: SURE has the pole 1 / 2, LATER (1 + i) / 2, both the zero 0 alone.
CORNER, LESS = num(Fraction(1, 2), Fraction(1, 2)), num(Fraction(-1, 2))
UNIT, START = (row(1), row(1)), ((NOUGHT, 1),)
SURE, LATER = (START, ((HALF, 1),), UNIT), (START, ((CORNER, 1),), UNIT)
REST = (row(3, Pair(0, 1)), row(1, Fraction(1, 2), Fraction(-1, 5)))


def plant_cases(seed):
    """Plants with zeros and poles of all counts up to 6 in all, and other RESTs."""
    source = random.Random(seed)
    for zeros in ((1,), (2,), (3,), (1, 1), (1, 2), (3, 3), (1, 1, 1), (1, 1, 1, 1, 1, 1)):
        for poles in ((), (1,), (3,), (1, 2), (1, 1, 1)):
            if sum(zeros) + sum(poles) > 6:
                continue
            places = [each for each in some_places(source, len(zeros) + len(poles) + 1, (2, 3, 4)) if each != Pair(0)]
            places = [Pair(0)] + places
            first = tuple((place.number(), many) for place, many in zip(places, zeros))
            if source.randint(0, 1):
                first = first[::-1]
            second = tuple((place.number(), many) for place, many in zip(places[len(zeros):], poles))
            rest = source.choice((UNIT, REST, (row(Pair(0, -7)), row(1)), (row(1), row(1, Fraction(-2, 3))), (row(5, 1, 1), row(1))))
            yield first, second, rest


def with_zeros(value):
    return (value, (), UNIT), 0


def with_poles(value):
    return (START, value, UNIT), 1


def with_rest(value):
    return (START, (), value), 2


WRONG_PAIRS = tuple(each for each in STRANGE if type(each) is not tuple) + (
    True, 0, (None,), (NOUGHT,), (ONE,), ((HALF,),), ((HALF, 1, 1),), ([HALF, 1],), ((HALF, 0),), ((HALF, 4),), ((HALF, -1),), ((HALF, True),),
    ((HALF, False),), ((HALF, (1, 1)),), ((HALF, "1"),), ((HALF, None),), ((HALF, Fraction(1)),), ((ONE, 1),), ((num(0, 2), 1),), ((1, HALF),),
    ((HALF, 1), None), ((HALF, 1), (HALF, 1)), ((HALF, 1), (LESS, 1), (HALF, 2)), ((HALF, 1), (LESS, 4)), ((((2, 4), (0, 1)), 1),),
) + tuple(((each, 1),) for each in WRONG_PLACES)
WRONG_PLANTS = tuple((each, None) for each in STRANGE if type(each) is not tuple or len(each) != 3) + (
    (True, None), (0, None), ((), None), (SURE[:2], None), (SURE + (UNIT,), None), (list(SURE), None), ((None,) * 3, 0), ((1, 2, 3), 0),
) + tuple(with_zeros(each) for each in WRONG_PAIRS) + tuple(
    with_zeros(((NOUGHT, 1),) + each) for each in WRONG_PAIRS if type(each) is tuple and each[0] is not None
) + tuple(with_poles(each) for each in WRONG_PAIRS) + tuple(with_rest(each) for each in WRONG_QUOTIENTS) + (
    # 0 is none of the NOUGHTS, or twice there.
    with_zeros(()), with_zeros(((HALF, 1),)), with_zeros(((NOUGHT, 1), (NOUGHT, 1))), with_zeros(((NOUGHT, 1), (HALF, 1), (NOUGHT, 2))),
    ((((HALF, 1),), None, None), 0), ((START, None, None), 1), ((START, (), None), 2), ((((HALF, 1),), ((HALF, 1),), UNIT), 0),
    # PLACEs in both lots, twice among the POLES.
    with_poles(((NOUGHT, 1),)), with_poles(((HALF, 1), (NOUGHT, 2))), with_poles(((HALF, 1), (HALF, 1))), ((((NOUGHT, 1), (HALF, 1)), ((HALF, 1),), UNIT), 1),
    # TIMES above 6 in all, also of NOUGHTS alone.
    ((((NOUGHT, 3), (HALF, 3), (LESS, 1)), (), UNIT), 1), ((((NOUGHT, 3), (HALF, 3)), ((LESS, 1),), UNIT), 1), (with_poles(((HALF, 3), (LESS, 3)))),
    ((((NOUGHT, 3), (HALF, 3), (LESS, 1)), (), None), 1), ((((NOUGHT, 3), (HALF, 3), (LESS, 1)), None, UNIT), 1),
    ((tuple((num(Fraction(k, 9)), 1) for k in range(7)), (), UNIT), 1),
    # REST: TOP (), roots in the disc or on the rim, of TOP or UNDER.
    with_rest(((), row(1))), with_rest((row(0, 1), row(1))), with_rest((row(1, -1), row(1))), with_rest((row(1, 2), row(1))), with_rest((row(1), row(1, -2))),
    with_rest((row(1), row(1, Pair(0, 1)))), with_rest((row(2, 1), row(1, 0, 4))), with_rest((row(1, Fraction(1, 2)), row(2, 1))),
    with_rest((row(1, 2), row(1, -2))), with_rest((row(1, 1), row(1, -1))),
)


# What is no QUOTIENT, or is not 0 at 0.
WRONG_PROCESSES = WRONG_QUOTIENTS + (
    (row(1), row(1)), (row(Fraction(1, 10 ** 30), 1), row(1)), (row(Pair(0, 1), 1), row(1, 2)), (row(-1), row(1, 3)), (row(5, 0, 1), row(1)),
)
WRONG_KINDS = STRANGE + BOOLS + (
    0, 1, "Left", "LEFT", "left ", " left", "echoes", "ech", "both", ("left",), ["left"], "leftecho", b"left", ("left", "echo"), {"left"},
)


def own_loop(process, controller):
    """(b d, a c, a c + b d) by the tests' own arithmetic."""
    kept, echoed = times_rows(process[1], controller[1]), times_rows(process[0], controller[0])
    longest = max(len(kept), len(echoed))
    one, two = [[pair(each) for each in some] + [Pair(0)] * (longest - len(some)) for some in (kept, echoed)]
    return kept, echoed, cut(x + y for x, y in zip(one, two))


def own_data_of(plant, kind):
    """The loop's DATA, pair by pair."""
    zeros, poles, _ = plant
    found = []
    for pairs, first in ((zeros, kind == "left"), (poles, kind == "echo")):
        for place, many in pairs:
            found.append((place, ((ONE if first else NOUGHT),) + (NOUGHT,) * (many - 1)))
    return tuple(found)


def product_of_sizes(place, pairs):
    """The product of the sizes squared of (place - x) / (1 - x' place) over the pairs, as often as they are."""
    total, at = Fraction(1), pair(place)
    for each, many in pairs:
        x = pair(each)
        for _ in range(many):
            total *= ((at - x) / (Pair(1) - x.mirrored() * at)).size()
    return total


def own_word(table):
    """ "none", "one" or "many" as a TABLE comes out below 0, only from 0 on, or above 0, cleared row by row."""
    table, rank = [[pair(each) for each in line] for line in table], 0
    for at in range(len(table)):
        line = table[at]
        weight = line[at].re
        if weight < 0 or (weight == 0 and any(each != Pair(0) for each in line)):
            return "none"
        if weight > 0:
            rank += 1
            factors = [other[at] / Pair(weight) for other in table]
            table = [[x - factor * y for x, y in zip(other, line)] for factor, other in zip(factors, table)]
            table[at] = [Pair(0)] * len(table)
    return "many" if rank == len(table) else "one"


def own_standing(data, bound):
    """The standing of DATA for a bound, a Fraction, in the tests' own arithmetic."""
    return own_word(own_table(data, bound) if data else ())


def own_tame_table(data):
    """V S + S V' by the tests' own arithmetic."""
    if not data:
        return ()
    s, v = own_tables(data)
    return plain_table([[x + y for x, y in zip(one, two)]
                        for one, two in zip(plain_product(v, s), plain_product(s, turned_over(v)))])


WRONG_COUNTS = STRANGE + BOOLS + (0, -1, 61, 100, -60, 10 ** 50, (1, 1), ONE, "1", (5,), [5])

OPPOSITES = (
    ("up to", "above"), ("some", "none"), ("one", "not one"), ("many", "not many"), ("answer", "no answer"), ("value", "no value"),
    ("nonnegative", "below"), ("tame", "not tame"), ("steadied", "not steadied"), ("keeps", "fails"), ("kept", "not kept"),
)


def both_of(words, about, truth):
    """A claim with its truth, and its opposite with the other one."""
    return [((words[0],) + about, truth), ((words[1],) + about, not truth)]


def quotient_claims(seed):
    """Claims about QUOTIENTs and bounds, and whether they are true."""
    source, found = random.Random(seed), []
    for factor in (Pair(1), Pair(2), Pair(Fraction(1, 2), Fraction(1, 2)), Pair(Fraction(3, 5), Fraction(4, 5))):
        for degree in (0, 1, 3):
            quotient = rim_one(factor, some_places(source, degree, (2, 3)))
            for part in (Fraction(9, 10), Fraction(1), Fraction(10 ** 12 - 1, 10 ** 12), Fraction(3)):
                found += both_of(("up to", "above"), (quotient, told(factor.size() * part)), part >= 1)
    for under in (row(1, -1), row(1, -3), row(1, 0, 1), row(1, Pair(1, 2), 5), row(1, Fraction(-5, 2), 1)):
        for top in (row(1), row(0, Fraction(1, 100))):
            found += both_of(("up to", "above"), ((top, under), (100, 1)), False)
    found += both_of(("up to", "above"), (((), row(1)), (1, 10 ** 20)), True)
    return found


def data_claims(seed):
    """Claims about DATA, and whether they are true, as their tables tell."""
    source, found = random.Random(seed), []
    for counts in ((), (1,), (2,), (3,), (1, 1), (2, 1), (1, 1, 1), (2, 2, 2), (1, 1, 1, 1, 1, 1)):
        for factor in (Pair(1), Pair(Fraction(1, 2), Fraction(1, 2))):
            shape = shape_at(source, counts)
            for degree in (0, 1, sum(counts) + 1):
                quotient = rim_one(factor, some_places(source, degree, (2, 3)))
                data, bound = data_from(quotient, shape), factor.size() * source.choice((1, 1, Fraction(5, 4), Fraction(9, 10)))
                about, word = (data, told(bound)), own_standing(data, bound)
                found += both_of(("some", "none"), about, word != "none")
                found += both_of(("one", "not one"), about, word == "one")
                found += both_of(("many", "not many"), about, word == "many")
                found += both_of(("answer", "no answer"), about + (quotient,), bound >= factor.size())
                other = rim_one(factor, some_places(source, 2, (2, 3)))
                found += both_of(("answer", "no answer"), about + (other,), bound >= factor.size() and data_from(other, shape) == data)
                places = [each.number() for each in some_places(source, 1, (7,))] + [place for place, _ in data[:1]]
                for place in places:
                    there = quotient_at(quotient, pair(place)).number()
                    for number in (there, num(Fraction(1, 9), Fraction(1, 9)), num(3)):
                        first = [values[0] for each, values in data if each == place]
                        truth = word != "none" and first[0] == number if first else own_standing(data + ((place, (number,)),), bound) != "none"
                        found += both_of(("value", "no value"), about + (place, number), truth)
    return found


def table_claims(seed):
    """Claims about TABLEs, and about tame series that have DATA."""
    source, found = random.Random(seed), both_of(("nonnegative", "below"), ((),), True)
    for signs in ((1,), (-1,), (), (1, 1), (1, -1), (1, 1, 1), (1, 1, -1), (-1, -1), (1, 1, 1, 1, 1), (1, 1, 1, 1, 1, -1)):
        for many in range(max(1, len(signs)), min(6, len(signs) + 2) + 1):
            table, counts = some_table(source, many, signs)
            found += both_of(("nonnegative", "below"), (table,), counts[2] == 0)
    found += both_of(("tame", "not tame"), ((),), True)
    for counts in ((1,), (2,), (3,), (1, 1), (2, 1), (1, 1, 1), (2, 2, 2)):
        for _ in range(3):
            shape = shape_at(source, counts)
            held = rim_one(rim(Fraction(source.randint(1, 9), 4)), some_places(source, source.randint(0, 2), (2, 3)))
            one, two = [[pair(each) for each in some] + [Pair(0)] * 3 for some in held]
            tame = made_quotient(cut(x + y for x, y in zip(two, one)), cut(x - y for x, y in zip(two, one)))
            some = tuple((place.number(), tuple((some_pair(source, 3, 3) * Pair(Fraction(1, 4)) + Pair(Fraction(1, 2))).number() for _ in range(many)))
                         for place, many in shape)
            for data in (data_from(tame, shape), some):
                found += both_of(("tame", "not tame"), (data,), own_word(own_tame_table(data)) != "none")
    return found


def loop_claims(seed):
    """Claims about loops and plants; those of SURE's process and a controller c alone by hand."""
    found, process = [], (row(0, -2), row(1, -2))
    for c in (Fraction(-3, 4), Fraction(-1), Fraction(-5, 4), Fraction(-1, 2), Fraction(-3, 2), Fraction(-1, 4), Fraction(-2), Fraction(5)):
        controller, slope = (row(c), row(1)), 2 + 2 * c
        steadied = abs(slope) < 1
        found += both_of(("steadied", "not steadied"), (process, controller), steadied)
        for bound in (Fraction(1), Fraction(4), Fraction(5), Fraction(9), Fraction(40)):
            # Q is 1 - 2 z over 1 - (2 + 2 c) z, T - 2 c z over it: greatest at 1 or - 1.
            left = steadied and max(1 / abs(1 - slope), 3 / abs(1 + slope)) ** 2 <= bound
            echo = steadied and (2 * abs(c) / (1 - abs(slope))) ** 2 <= bound
            for kind, truth in (("left", left), ("echo", echo)):
                found += both_of(("keeps", "fails"), (process, controller, kind, told(bound)), truth)
    found += both_of(("steadied", "not steadied"), (process, (row(1, -2), row(1))), False)
    found += both_of(("keeps", "fails"), (process, ((), row(1)), "echo", (1, 1)), False)
    found += both_of(("keeps", "fails"), (((), row(1)), ((), row(1)), "left", (1, 1)), True)
    found += both_of(("keeps", "fails"), (((), row(1)), ((), row(1)), "echo", (1, 9)), True)
    for plant in list(plant_cases(seed))[::2]:
        for kind in ("left", "echo"):
            for bound in ((1, 2), (1, 1), (4, 1), (30, 1), (10 ** 5, 1)):
                found += both_of(("kept", "not kept"), (plant, kind, bound), own_standing(own_data_of(plant, kind), frac(bound)) != "none")
    return found


def all_claims(seed):
    return quotient_claims(seed) + data_claims(seed + 1) + table_claims(seed + 2) + loop_claims(seed + 3)
