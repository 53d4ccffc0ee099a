"""Sizes of QUOTIENTs: the gap, whether one is up to a bound, and what shows that it is not."""

import random
import unittest
from fractions import Fraction

from tests.support import (
    BOOLS, ONE, STRANGE, WRONG_BOUNDS, WRONG_QUOTIENTS, Pair, check_refusals, frac, from_roots, given, made_quotient, num,
    pair, quotient_at, real_value_of, reduced_number, rim, row, some_fraction, some_pair, times_rows, told, value_of,
)
from withinrim.errors import InvalidFraction, InvalidQuotient
from withinrim.helds import above_at, is_up_to, rim_gap
from withinrim.quotients import quotient_of
from withinrim.realrows import is_real_row

HALF = Fraction(1, 2)
NOUGHT = ((), (ONE,))
BENT = (row(0, 1), row(1, -HALF))
TINY = Fraction(1, 10 ** 40)


def turning(*roots):
    """The QUOTIENT of size 1 round the rim with these roots (Pairs) in the disc."""
    top, under = row(1), row(1)
    for root in roots:
        top = times_rows(top, row(Pair(0) - root, 1))
        under = times_rows(under, (num(1), (Pair(0) - root.mirrored()).number()))
    return top, under


def turned_by(quotient, turn):
    """The QUOTIENT at turn z, turn being a Pair on the rim."""
    made = []
    for some in quotient:
        power, numbers = Pair(1), []
        for each in some:
            numbers.append(pair(each) * power)
            power = power * turn
        made.append(row(*numbers))
    return tuple(made)


# QUOTIENTs without roots of UNDER in the closed disc, with the greatest size squared there.
GREATEST = (
    (NOUGHT, 0), ((row(HALF), row(1)), HALF ** 2), ((row(Pair(3, 4)), row(1)), 25), ((row(0, 0, 0, 1), row(1)), 1),
    ((row(1, 1), row(1)), 4), ((row(1, -1), row(1)), 4), ((row(1, 2, 3, 4), row(1)), 100),
    ((row(3, 0, Pair(0, 4)), row(1)), 49), ((row(Pair(3, 4), Pair(Fraction(5, 13), Fraction(12, 13))), row(1)), 36), (BENT, 4), ((row(1), row(1, HALF)), 4),
    ((row(1), row(1, 0, 0, Fraction(1, 3))), Fraction(9, 4)), ((row(1, 1), row(1, -HALF)), 16), ((row(1, -1), row(1, HALF)), 16),
    ((row(1, Fraction(1, 3)), row(1, Fraction(-2, 3))), 16), ((row(-1, 2), row(1, -HALF)), 4),
    ((row(5, 5), row(1, Fraction(1, 5))), Fraction(625, 9)), ((row(1, -1), row(1, Fraction(1, 5))), Fraction(25, 4)), ((row(1, 0, 1), row(1, 0, 0, 0, -HALF)), 16),
)


class GapTest(unittest.TestCase):
    def test_values(self):
        source = random.Random(51)
        for _ in range(60):
            top = tuple(some_pair(source).number() for _ in range(source.randint(0, 3))) + row(2)
            under = row(1) + tuple(some_pair(source).number() for _ in range(source.randint(0, 3))) + row(Pair(1, 3))
            quotient = quotient_of(top, under)
            bound = abs(some_fraction(source)) + Fraction(1, 7)
            gap = rim_gap(quotient, told(bound))
            self.assertTrue(is_real_row(gap))
            degree = max(len(quotient[0]), len(quotient[1])) - 1
            self.assertLessEqual(len(gap), 2 * degree + 1)
            for _ in range(3):
                x = some_fraction(source, 20)
                sizes = [value_of(some, rim(x)).size() for some in quotient]
                self.assertEqual(real_value_of(gap, x), (bound * sizes[1] - sizes[0]) * (1 + x * x) ** degree)

    def test_edges(self):
        self.assertEqual(rim_gap(BENT, (4, 1)), ((0, 1), (0, 1), (8, 1)))
        self.assertEqual(rim_gap(BENT), ((-3, 4), (0, 1), (5, 4)))
        self.assertEqual(rim_gap(bound=(1, 1), quotient=BENT), rim_gap(BENT))
        self.assertEqual(rim_gap(NOUGHT, (2, 3)), ((2, 3),))
        self.assertEqual(rim_gap((row(2), row(1)), (4, 1)), ())
        self.assertEqual(rim_gap((row(2), row(1))), ((-3, 1),))
        self.assertEqual(rim_gap((row(0, 0, 1), row(1))), ())
        self.assertEqual(rim_gap((row(0, 1), row(1)), (3, 1)), ((2, 1), (0, 1), (2, 1)))

    def test_nought_gap_for_turning_ones(self):
        source = random.Random(52)
        for _ in range(20):
            roots = [Pair(some_fraction(source, 3, 5), some_fraction(source, 3, 5)) for _ in range(source.randint(0, 4))]
            roots = [root if root.size() < 1 else Pair(HALF, HALF) for root in roots]
            top, under = turning(*roots)
            factor = Pair(Fraction(source.randint(1, 9), 4), HALF)
            quotient = (tuple((pair(each) * factor).number() for each in top), under)
            self.assertEqual(rim_gap(quotient, told(factor.size())), ())
            self.assertIs(is_up_to(quotient, told(factor.size())), True)
            self.assertIsNone(above_at(quotient, told(factor.size())))
            self.assertIs(is_up_to(quotient, told(factor.size() - TINY)), False)


class UpToTest(unittest.TestCase):
    def check(self, quotient, bound, expected):
        """What all three tell of a QUOTIENT and a bound, by what the document asks of them."""
        self.assertIs(is_up_to(quotient, told(bound)), expected, (quotient, bound))
        shown = above_at(quotient, told(bound))
        if expected:
            self.assertIsNone(shown)
            return None
        self.assertTrue(type(shown) is tuple and len(shown) == 2)
        if shown[0] == "place":
            self.assertTrue(reduced_number(shown[1]))
            at = pair(shown[1])
            self.assertLess(at.size(), 1)
            self.assertGreater(quotient_at(quotient, at).size(), bound)
        return shown

    def test_at_below_and_above_the_greatest(self):
        source = random.Random(53)
        for quotient, greatest in GREATEST:
            for turn in (Pair(1), Pair(-1), Pair(0, 1), rim(some_fraction(source))):
                led = turned_by(quotient, turn)
                if greatest:
                    self.check(led, Fraction(greatest), True)
                    self.check(led, greatest - TINY, False)
                    self.check(led, Fraction(greatest) * Fraction(99, 100), False)
                self.check(led, greatest + TINY, True)
                self.check(led, Fraction(10 ** 9), True)

    def test_places_are_told_where_under_has_no_root_in_the_closed_disc(self):
        for quotient, greatest in GREATEST[1:]:
            shown = self.check(quotient, Fraction(greatest) / 2, False)
            self.assertEqual(shown[0], "place")
        self.assertEqual(above_at((row(2), row(1)))[0], "place")

    def test_roots_of_under(self):
        within = (Pair(HALF), Pair(-HALF, HALF), Pair(0, Fraction(1, 3)))
        on_rim = (Pair(1), Pair(-1), Pair(0, -1), rim(2))
        beyond = (Pair(2), Pair(-1, 1), Pair(0, Fraction(-3, 2)))
        source = random.Random(54)
        for _ in range(40):
            roots = source.choices(within, k=source.randint(0, 2)) + source.choices(on_rim, k=source.randint(0, 2))
            far = source.choices(beyond, k=source.randint(0, 2))
            quotient = made_quotient(row(Fraction(1, 10 ** 30)), from_roots(roots + far))
            bound = source.choice((Fraction(1), Fraction(10 ** 30), Fraction(1, 10 ** 90)))
            if roots:
                self.assertEqual(self.check(quotient, bound, False), ("roots", len(roots)))
            else:
                self.check(quotient, bound, bound >= 1)

    def test_a_small_top_does_not_help(self):
        # z - 1 over 1 - z z is small, but for a root of UNDER at -1.
        self.assertEqual(self.check(quotient_of(row(-1, 1), row(1, 0, -1)), Fraction(100), False), ("roots", 1))
        self.assertEqual(self.check((row(1), row(1, 0, 0, 0, 1)), Fraction(10 ** 9), False), ("roots", 4))
        self.assertEqual(self.check((row(1), row(1, -3)), Fraction(1), False), ("roots", 1))
        self.assertEqual(self.check((row(0, 1), row(1, 0, 4)), Fraction(1), False), ("roots", 2))

    def test_samples(self):
        source = random.Random(55)
        for _ in range(40):
            top = tuple(some_pair(source, 3, 4).number() for _ in range(source.randint(1, 4))) + row(1)
            under = row(9) + tuple(some_pair(source, 3, 2).number() for _ in range(source.randint(0, 2))) + row(1)
            quotient = quotient_of(top, under)
            sizes = [quotient_at(quotient, rim(Fraction(n, 8))).size() for n in range(-40, 41, 3)]
            bound = max(sizes) * Fraction(source.choice((90, 99, 100, 101, 110)), 100)
            found = is_up_to(quotient, told(bound))
            self.check(quotient, bound, found)
            if any(size > bound for size in sizes):
                self.assertIs(found, False)

    def test_a_bound_left_out_is_one(self):
        line = (row(0, 1), row(1))
        self.assertIs(is_up_to(line), True)
        self.assertIsNone(above_at(line))
        for size, expected in ((1 - TINY, True), (1 + TINY, False)):
            led = (row(0, size), row(1))
            self.assertIs(is_up_to(led), expected)
            self.assertIs(above_at(led) is None, expected)
        self.assertIs(is_up_to(quotient=BENT), False)
        self.assertEqual(above_at(quotient=BENT)[0], "place")
        self.assertIs(is_up_to(bound=(4, 1), quotient=BENT), True)
        self.assertIsNone(above_at(bound=(4, 1), quotient=BENT))
        self.assertIs(is_up_to(NOUGHT, told(TINY)), True)
        self.assertIsNone(above_at(NOUGHT, told(TINY)))

    def test_answers_are_alike(self):
        for quotient, greatest in GREATEST[1:]:
            bound = told(Fraction(greatest) / 3)
            self.assertEqual(above_at(quotient, bound), above_at(quotient, bound))
            self.assertGreater(frac(bound), 0)


class RefusalTest(unittest.TestCase):
    def test_refusals(self):
        wrong = given(InvalidQuotient, WRONG_QUOTIENTS)
        bound = given(InvalidFraction, WRONG_BOUNDS)
        for call in (rim_gap, is_up_to, above_at):
            check_refusals(self, call, (("quotient", wrong, BENT), ("bound", bound, (4, 1))))
            check_refusals(self, call, (("quotient", wrong, BENT),))
            for value in STRANGE + BOOLS:
                with self.assertRaises(InvalidFraction) as caught:
                    call((row(1), row(1, -3)), value)
                self.assertIs(caught.exception.given, value)


if __name__ == "__main__":
    unittest.main()
