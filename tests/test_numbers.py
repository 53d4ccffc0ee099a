"""Fractions and NUMBERs: made, told, reckoned, and the rim by fractions."""

import random
import unittest
from fractions import Fraction

from tests.support import (
    BOOLS, STRANGE, WRONG_FRACTIONS, WRONG_NUMBERS, WRONG_WHOLES, Pair, check_refusals, frac, given, num, pair,
    reduced_fraction, reduced_number, refused, rim, some_fraction, some_pair, told,
)
from withinrim.errors import InvalidFraction, InvalidNumber, InvalidWhole, NotNow
from withinrim.numbers import (
    compared, fraction_of, is_fraction, is_number, lies, mirrored, number_less, number_of, number_over, number_product,
    number_sum, rim_fraction, rim_number, size,
)

GREAT = 7 ** 300


class MakingTest(unittest.TestCase):
    def test_fractions_are_reduced(self):
        for n in range(-12, 13):
            for m in list(range(-12, 0)) + list(range(1, 13)):
                made = fraction_of(n, m)
                self.assertTrue(reduced_fraction(made))
                self.assertEqual(frac(made), Fraction(n, m))
        self.assertEqual(fraction_of(5), (5, 1))
        self.assertEqual(fraction_of(0, -9), (0, 1))
        self.assertEqual(fraction_of(6, -4), (-3, 2))
        self.assertEqual(fraction_of(m=6, n=4), (2, 3))
        self.assertEqual(fraction_of(GREAT * 10, -GREAT * 4), (-5, 2))
        self.assertEqual(fraction_of(GREAT, GREAT + 1), (GREAT, GREAT + 1))

    def test_numbers_are_reduced(self):
        source = random.Random(1)
        for _ in range(200):
            a, b, m = source.randint(-30, 30), source.randint(-30, 30), source.choice((-12, -5, -1, 1, 2, 8, 30))
            made = number_of(a, b, m)
            self.assertTrue(reduced_number(made))
            self.assertEqual(pair(made), Pair(Fraction(a, m), Fraction(b, m)))
        self.assertEqual(number_of(3), ((3, 1), (0, 1)))
        self.assertEqual(number_of(3, 6), ((3, 1), (6, 1)))
        self.assertEqual(number_of(m=-6, b=2, a=3), ((-1, 2), (-1, 3)))
        self.assertEqual(number_of(GREAT, -2 * GREAT, 4 * GREAT), ((1, 4), (-1, 2)))


class TellingTest(unittest.TestCase):
    def test_fractions(self):
        for value in WRONG_FRACTIONS:
            self.assertIs(is_fraction(value), False, repr(value))
        for n in range(-9, 10):
            for m in range(-9, 10):
                self.assertIs(is_fraction((n, m)), reduced_fraction((n, m)), (n, m))
        for value in ((GREAT, 10), (-GREAT, GREAT + 1), (0, 1), (-1, GREAT)):
            self.assertIs(is_fraction(value=value), True)
        self.assertIs(is_fraction((GREAT, 7)), False)
        self.assertIs(is_fraction((0, GREAT)), False)

    def test_numbers(self):
        for value in WRONG_NUMBERS:
            self.assertIs(is_number(value), False, repr(value))
        for value in (((0, 1), (0, 1)), ((-1, 2), (3, 4)), ((GREAT, 5), (-1, GREAT))):
            self.assertIs(is_number(value=value), True)
            self.assertIs(is_number(list(value)), False)
            self.assertIs(is_number(value + value[:1]), False)
            self.assertIs(is_number(value[:1]), False)


class ReckoningTest(unittest.TestCase):
    def test_compared(self):
        source = random.Random(2)
        for _ in range(300):
            x, y = some_fraction(source, 5, 4), some_fraction(source, 5, 4)
            self.assertEqual(compared(told(x), told(y)), (x > y) - (x < y))
        self.assertEqual(compared((-3, 2), (-5, 3)), 1)
        self.assertEqual(compared(other=(GREAT + 1, GREAT), fraction=(GREAT, GREAT - 1)), 1)
        self.assertEqual(compared((GREAT, GREAT + 1), (GREAT, GREAT + 1)), 0)
        self.assertEqual(compared((0, 1), (1, GREAT)), -1)

    def test_sums_products_quotients(self):
        source = random.Random(3)
        for turn in range(300):
            top = 9 if turn % 2 else 10 ** 40
            x, y = some_pair(source, top, top), some_pair(source, top, 6)
            one, other = x.number(), y.number()
            self.assertEqual(number_sum(one, other), (x + y).number())
            self.assertEqual(number_less(one, other), (x - y).number())
            self.assertEqual(number_product(one, other), (x * y).number())
            if y.size() != 0:
                self.assertEqual(number_over(one, other), (x / y).number())
        half = num(Fraction(1, 2))
        self.assertEqual(number_sum(other=half, number=num(0, 1)), num(Fraction(1, 2), 1))
        self.assertEqual(number_less(other=half, number=num(0, 1)), num(Fraction(-1, 2), 1))
        self.assertEqual(number_product(other=half, number=num(0, 1)), num(0, Fraction(1, 2)))
        self.assertEqual(number_over(other=half, number=num(0, 1)), num(0, 2))
        self.assertEqual(number_over(num(0), num(0, 3)), num(0))
        self.assertEqual(number_over(num(1), num(0, -2)), num(0, Fraction(1, 2)))

    def test_nothing_is_over_nought(self):
        for number in (num(0), num(1), num(3, -4)):
            refused(self, NotNow, None, None, number_over, number, num(0))

    def test_mirrored_and_sizes(self):
        source = random.Random(4)
        for _ in range(100):
            x, y = some_pair(source), some_pair(source)
            self.assertEqual(mirrored(x.number()), x.mirrored().number())
            self.assertEqual(frac(size(x.number())), x.size())
            self.assertEqual(frac(size(number_product(x.number(), y.number()))), x.size() * y.size())
        self.assertEqual(mirrored(number=num(0)), num(0))
        self.assertEqual(size(number=num(3, 4)), (25, 1))
        self.assertEqual(size(num(Fraction(1, 2), Fraction(-1, 2))), (1, 2))
        self.assertEqual(size(num(0)), (0, 1))

    def test_lies(self):
        self.assertEqual(lies(num(0)), "disc")
        for x in range(-9, 10):
            for y in range(-9, 10):
                size_squared = x * x + y * y
                word = "disc" if size_squared < 25 else "rim" if size_squared == 25 else "beyond"
                self.assertEqual(lies(num(Fraction(x, 5), Fraction(y, 5))), word)
        self.assertEqual(lies(number=num(1)), "rim")
        self.assertEqual(lies(num(1, Fraction(1, GREAT))), "beyond")
        self.assertEqual(lies(num(1 - Fraction(1, GREAT))), "disc")


class RimTest(unittest.TestCase):
    def test_there_and_back(self):
        source = random.Random(5)
        fractions = [some_fraction(source, 20, 20) for _ in range(100)] + [Fraction(0), Fraction(GREAT, 3)]
        for x in fractions:
            number = rim_number(told(x))
            self.assertEqual(number, rim(x).number())
            self.assertEqual(size(number), (1, 1))
            self.assertEqual(rim_fraction(number), told(x))
        self.assertEqual(rim_number(fraction=(1, 2)), ((3, 5), (4, 5)))
        self.assertEqual(rim_number((0, 1)), num(1))
        self.assertEqual(rim_number((-1, 1)), num(0, -1))

    def test_only_minus_one_comes_of_none(self):
        self.assertIsNone(rim_fraction(num(-1)))
        self.assertEqual(rim_fraction(number=num(1)), (0, 1))
        self.assertEqual(rim_fraction(num(0, 1)), (1, 1))
        for a, b, c in ((3, 4, 5), (-4, 3, 5), (-5, -12, 13), (8, -15, 17), (-99, 20, 101)):
            number = num(Fraction(a, c), Fraction(b, c))
            self.assertEqual(rim_number(rim_fraction(number)), number)

    def test_off_the_rim(self):
        for number in (num(0), num(-2), num(1, 1), num(Fraction(1, 2)), num(-1, Fraction(1, GREAT))):
            refused(self, NotNow, None, None, rim_fraction, number)


class RefusalTest(unittest.TestCase):
    def test_wholes(self):
        whole = given(InvalidWhole, WRONG_WHOLES)
        bottom = given(InvalidWhole, WRONG_WHOLES + (0,))
        check_refusals(self, fraction_of, (("n", whole, 3), ("m", bottom, 4)))
        check_refusals(self, number_of, (("a", whole, 3), ("b", whole, 0), ("m", bottom, -4)))
        check_refusals(self, fraction_of, (("n", whole, 3),))
        check_refusals(self, number_of, (("a", whole, 3), ("b", whole, 0)))

    def test_fractions(self):
        fraction = given(InvalidFraction, WRONG_FRACTIONS)
        check_refusals(self, compared, (("fraction", fraction, (1, 2)), ("other", fraction, (0, 1))))
        check_refusals(self, rim_number, (("fraction", fraction, (1, 2)),))

    def test_numbers(self):
        number = given(InvalidNumber, WRONG_NUMBERS)
        for call in (number_sum, number_less, number_product, number_over):
            check_refusals(self, call, (("number", number, num(1, 2)), ("other", number, num(0, 1))))
        for call in (mirrored, size, lies, rim_fraction):
            check_refusals(self, call, (("number", number, num(0, 1)),))

    def test_what_is_told_with_last_is_last(self):
        for value in STRANGE + BOOLS:
            refused(self, InvalidNumber, "given", value, number_over, value, num(0))


if __name__ == "__main__":
    unittest.main()
