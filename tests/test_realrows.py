"""REAL ROWs: values, leaps, roots within bounds and as often as they are, and what is below nought."""

import random
import unittest
from fractions import Fraction

from tests.support import (
    BOOLS, STRANGE, WRONG_FRACTIONS, WRONG_REALS, check_refusals, frac, given, real, real_from_roots, real_value_of,
    reduced_fraction, refused, some_fraction, times_reals, told,
)
from withinrim.errors import InvalidFraction, InvalidRealRow, NotNow
from withinrim.realrows import (
    below_at, is_never_below, is_real_row, leaps, real_roots, real_roots_within, real_value,
)

GREAT = 10 ** 80
NO_REAL_ROOTS = (real(1), real(1, 0, 1), real(2, 2, 1), real(1, 0, 0, 0, 1), real(Fraction(1, GREAT), 0, 1))
CUBIC = real(0, -1, 0, 1)


def product(*reals):
    made = real(1)
    for each in reals:
        made = times_reals(made, each)
    return made


def power(some, many):
    return product(*([some] * many))


class TellingTest(unittest.TestCase):
    def test_is_real_row(self):
        for value in WRONG_REALS:
            self.assertIs(is_real_row(value), False, repr(value))
        for value in ((), real(1), real(0, 1), real(Fraction(-1, 3), 0, GREAT), real(*range(1, 900))):
            self.assertIs(is_real_row(value=value), True)
            self.assertIs(is_real_row(list(value)), False)
            self.assertIs(is_real_row(value + ((0, 1),)), False)

    def test_values(self):
        source = random.Random(21)
        for _ in range(100):
            some = tuple(told(some_fraction(source)) for _ in range(source.randint(0, 5))) + real(3)
            at = some_fraction(source)
            self.assertEqual(real_value(some, told(at)), told(real_value_of(some, at)))
        self.assertEqual(real_value(fraction=(1, 2), real=CUBIC), (-3, 8))
        self.assertEqual(real_value((), (5, 7)), (0, 1))
        self.assertEqual(real_value(real(4, 4), (-1, 1)), (0, 1))


class LeapsTest(unittest.TestCase):
    def test_sums_of_poles(self):
        source = random.Random(22)
        for _ in range(80):
            places = source.sample([Fraction(n, 3) for n in range(-9, 10)], source.randint(0, 4))
            poles = [(place, source.choice((1, 1, 2, 3)), source.choice((-5, -1, 1, 2))) for place in places]
            under = product(*[power(real_from_roots([place]), many) for place, many, _ in poles])
            above = ()
            for place, many, weight in poles:
                others = product(*[power(real_from_roots([p]), m) for p, m, _ in poles if p != place])
                above = added(above, times_reals(others, real(weight)))
            # A whole part, and poles that are not real, bring no leaps; nor does what both have in common.
            above = added(above, times_reals(under, real(source.randint(-2, 2), 0, 3)))
            above, under = added(times_reals(above, real(1, 0, 1)), under), times_reals(under, real(1, 0, 1))
            shared = real_from_roots([source.choice(places)] if places else [2], source.choice((-3, 1)))
            expected = sum((weight > 0) - (weight < 0) for _, many, weight in poles if many % 2)
            self.assertEqual(leaps(under, above), expected)
            self.assertEqual(leaps(times_reals(under, shared), times_reals(above, shared)), expected)
            self.assertEqual(leaps(under, times_reals(above, real(-1))), -expected)

    def test_edges(self):
        self.assertEqual(leaps(real(0, 1), real(-1)), -1)
        self.assertEqual(leaps(other=real(1), real=real(0, 1)), 1)
        self.assertEqual(leaps(real(0, -2), real(1)), -1)
        self.assertEqual(leaps(real(0, 0, 1), real(1)), 0)
        self.assertEqual(leaps(real(0, 0, 0, 1), real(-1)), -1)
        self.assertEqual(leaps(CUBIC, real(0, 1)), 0)
        self.assertEqual(leaps(CUBIC, ()), 0)
        self.assertEqual(leaps(real(5), CUBIC), 0)
        self.assertEqual(leaps(real(0, 1), real(1, 0, 0, 0, 7)), 1)
        self.assertEqual(leaps(CUBIC, real(-1, 0, 3)), 3)
        refused(self, NotNow, None, None, leaps, (), CUBIC)
        refused(self, NotNow, None, None, leaps, (), ())


def added(one, other):
    longer = max(len(one), len(other))
    total = [Fraction(0)] * longer
    for each in (one, other):
        for k, part in enumerate(each):
            total[k] += frac(part)
    while total and total[-1] == 0:
        total.pop()
    return tuple(told(each) for each in total)


class RootsTest(unittest.TestCase):
    def test_real_roots_as_often_as_they_are(self):
        source = random.Random(23)
        for _ in range(80):
            places = source.sample([Fraction(n, 4) for n in range(-9, 10)], source.randint(0, 4))
            times = [source.randint(1, 4) for _ in places]
            made = product(real(source.choice((-3, 2))), *[power(real_from_roots([p]), t) for p, t in zip(places, times)])
            # x x - 2 has two real roots that are no fractions.
            rough = source.randint(0, 2)
            made = product(made, power(real(-2, 0, 1), rough), source.choice(NO_REAL_ROOTS), source.choice(NO_REAL_ROOTS))
            all_times = times + [rough, rough]
            counts = [sum(1 for t in all_times if t > k) for k in range(4)]
            self.assertEqual(real_roots(made), tuple(each for each in counts if each))

    def test_real_roots_edges(self):
        self.assertEqual(real_roots(real(1)), ())
        self.assertEqual(real_roots(real(-7)), ())
        self.assertEqual(real_roots(real=real(0, 1)), (1,))
        self.assertEqual(real_roots(real(0, 0, 0, 0, 5)), (1, 1, 1, 1))
        self.assertEqual(real_roots(CUBIC), (3,))
        self.assertEqual(real_roots(real(1, 0, 2, 0, 1)), ())
        self.assertEqual(real_roots(product(real(0, 1), power(real(1, 0, 1), 3))), (1,))
        refused(self, NotNow, None, None, real_roots, ())

    def test_close_roots(self):
        close = real_from_roots([1, 1 + Fraction(1, GREAT)])
        self.assertEqual(real_roots(close), (2,))
        self.assertEqual(real_roots_within(close, (1, 1), (2, 1)), 1)
        self.assertEqual(real_roots_within(close, (0, 1), (1, 1)), 1)
        self.assertEqual(real_roots(real(Fraction(1, GREAT), 0, 1)), ())

    def test_within(self):
        source = random.Random(24)
        for _ in range(80):
            places = source.sample([Fraction(n, 2) for n in range(-6, 7)], source.randint(0, 4))
            made = product(real(-2), *[power(real_from_roots([p]), source.randint(1, 3)) for p in places])
            made = product(made, source.choice(NO_REAL_ROOTS))
            low, high = Fraction(source.randint(-7, 7), 2), Fraction(source.randint(-7, 7), 2)
            expected = sum(1 for p in places if low < p <= high)
            self.assertEqual(real_roots_within(made, told(low), told(high)), expected)

    def test_within_at_multiple_roots(self):
        made = product(power(real(0, 1), 3), power(real(-1, 1), 2), power(real(-2, 1), 4))
        for low, high, many in ((0, 1, 1), (0, 2, 2), (-1, 0, 1), (-1, 2, 3), (1, 2, 1), (2, 3, 0), (-2, -1, 0)):
            self.assertEqual(real_roots_within(made, (low, 1), (high, 1)), many)
        self.assertEqual(real_roots_within(made, (1, 2), (3, 2)), 1)
        self.assertEqual(real_roots_within(real(-2, 0, 1), (1, 1), (2, 1)), 1)
        self.assertEqual(real_roots_within(high=(1, 1), low=(-1, 1), real=CUBIC), 2)

    def test_within_edges(self):
        self.assertEqual(real_roots_within(CUBIC, (0, 1), (0, 1)), 0)
        self.assertEqual(real_roots_within(CUBIC, (2, 1), (-2, 1)), 0)
        self.assertEqual(real_roots_within(real(4), (-2, 1), (2, 1)), 0)
        for low, high in (((-1, 1), (1, 1)), ((1, 1), (1, 1)), ((1, 1), (-1, 1))):
            refused(self, NotNow, None, None, real_roots_within, (), low, high)


class BelowTest(unittest.TestCase):
    def check(self, some, never):
        self.assertIs(is_never_below(some), never, some)
        place = below_at(some)
        if never:
            self.assertIsNone(place)
        else:
            self.assertTrue(reduced_fraction(place))
            self.assertLess(real_value_of(some, frac(place)), 0)

    def test_made_rows(self):
        source = random.Random(25)
        for _ in range(120):
            places = source.sample([Fraction(n, 3) for n in range(-6, 7)], source.randint(0, 4))
            times = [source.choice((1, 2, 2, 2, 3, 4)) for _ in places]
            rough = source.choice((0, 1, 2, 2))
            last = source.choice((-1, 1, 1, 1))
            made = product(real(last), *[power(real_from_roots([p]), t) for p, t in zip(places, times)])
            made = product(made, power(real(-2, 0, 1), rough), source.choice(NO_REAL_ROOTS))
            self.check(made, last > 0 and rough % 2 == 0 and all(t % 2 == 0 for t in times))

    def test_edges(self):
        self.check((), True)
        self.check(real(3), True)
        self.check(real(-3), False)
        self.check(real(Fraction(-1, GREAT)), False)
        self.check(real(0, 1), False)
        self.check(real(0, -1), False)
        self.check(real(0, 0, 1), True)
        self.check(real(0, 0, -1), False)
        self.check(real(0, 0, 0, 1), False)
        self.check(real(1, 0, 1), True)
        self.check(real(-1, 0, -1), False)
        self.check(real(1, -2, 2, -2, 1), True)

    def test_hardly_below(self):
        for centre in (Fraction(0), Fraction(1), Fraction(10 ** 9, 7), Fraction(-1, 3)):
            flat = power(real_from_roots([centre]), 2)
            self.check(flat, True)
            self.check(added(flat, real(Fraction(1, GREAT))), True)
            self.check(added(flat, real(Fraction(-1, GREAT))), False)
            self.check(times_reals(added(flat, real(Fraction(-1, GREAT))), flat), False)
        # Below 0 just between two of many roots, all others being there twice.
        twice = product(*[power(real_from_roots([n]), 2) for n in range(-3, 4)])
        self.check(product(twice, real_from_roots([Fraction(1, 2), Fraction(1, 2) + Fraction(1, GREAT)])), False)
        self.check(product(twice, real_from_roots([-3, -2])), False)
        self.check(twice, True)

    def test_by_name(self):
        self.assertIs(is_never_below(real=CUBIC), False)
        self.assertIsNone(below_at(real=real(1)))


class RefusalTest(unittest.TestCase):
    def test_rows(self):
        wrong = given(InvalidRealRow, WRONG_REALS)
        fraction = given(InvalidFraction, WRONG_FRACTIONS)
        for call in (real_roots, is_never_below, below_at):
            check_refusals(self, call, (("real", wrong, CUBIC),))
        check_refusals(self, leaps, (("real", wrong, CUBIC), ("other", wrong, ())))
        check_refusals(self, real_value, (("real", wrong, CUBIC), ("fraction", fraction, (0, 1))))
        check_refusals(self, real_roots_within, (("real", wrong, CUBIC), ("low", fraction, (-1, 1)), ("high", fraction, (0, 1))))

    def test_what_is_told_with_last_is_last(self):
        for value in STRANGE + BOOLS:
            refused(self, InvalidRealRow, "given", value, leaps, (), value)
            refused(self, InvalidFraction, "given", value, real_roots_within, (), value, (0, 1))
            refused(self, InvalidFraction, "given", value, real_roots_within, (), (0, 1), value)


if __name__ == "__main__":
    unittest.main()
