"""ROWs: told, reckoned, divided, their common divisors, values, and back by n."""

import random
import unittest
from fractions import Fraction

from tests.support import (
    BOOLS, ONE, STRANGE, WRONG_NUMBER_TUPLES, WRONG_NUMBERS, WRONG_ROWS, WRONG_WHOLES, Pair, check_refusals, cut,
    from_roots, given, indexed, num, pair, reduced_number, refused, rim, row, some_pair, some_row, times_rows, value_of,
)
from withinrim.errors import InvalidCount, InvalidNumber, InvalidNumbers, InvalidRow, NotNow
from withinrim.rows import (
    is_row, mirrored_row, row_at, row_back, row_common, row_divided, row_from, row_less, row_product, row_sum, row_value,
)

HALF = Fraction(1, 2)
GREAT = 10 ** 120 + 7


def rows_to_try(source, many, most=6):
    """Random ROWs, among them (), numbers alone, and some with noughts inside."""
    yield ()
    yield (num(3, -1),)
    yield row(0, 0, 0, 1)
    yield row(1, 0, Pair(0, GREAT), 0, Fraction(-1, GREAT))
    for _ in range(many):
        yield some_row(source, most)


class TellingTest(unittest.TestCase):
    def test_is_row(self):
        for value in WRONG_ROWS:
            self.assertIs(is_row(value), False, repr(value))
        for value in ((), (ONE,), row(0, 1), row(1, 0, 0, Pair(0, -1)), row(*range(1, 900))):
            self.assertIs(is_row(value=value), True)
            self.assertIs(is_row(list(value)), False)
            self.assertIs(is_row(value + (num(0),)), False)

    def test_row_from(self):
        self.assertEqual(row_from(()), ())
        self.assertEqual(row_from((num(0),) * 5), ())
        self.assertEqual(row_from(numbers=row(0, 1, 0, 2, 0, 0)), row(0, 1, 0, 2))
        self.assertEqual(row_from(row(1, 2)), row(1, 2))
        self.assertEqual(row_from(row(*range(900)) + (num(0),) * 90), row(*range(900)))
        self.assertEqual(row_from(row(0, Pair(0, 1), 0)), row(0, Pair(0, 1)))


class ReckoningTest(unittest.TestCase):
    def test_sums_differences_products(self):
        source = random.Random(11)
        tried = list(rows_to_try(source, 12))
        for one in tried:
            for other in tried:
                longer = max(len(one), len(other))
                x = [pair(each) for each in one + (num(0),) * (longer - len(one))]
                y = [pair(each) for each in other + (num(0),) * (longer - len(other))]
                self.assertEqual(row_sum(one, other), cut([a + b for a, b in zip(x, y)]))
                self.assertEqual(row_less(one, other), cut([a - b for a, b in zip(x, y)]))
                self.assertEqual(row_product(one, other), times_rows(one, other))

    def test_degrees_fall(self):
        one = row(1, 2, Pair(0, 3))
        self.assertEqual(row_sum(one, row(0, 0, Pair(0, -3))), row(1, 2))
        self.assertEqual(row_sum(one, row(-1, -2, Pair(0, -3))), ())
        self.assertEqual(row_less(one, row(0, 2, Pair(0, 3))), row(1))
        self.assertEqual(row_less(one, one), ())
        self.assertEqual(row_less(row=(), other=one), row(-1, -2, Pair(0, -3)))
        self.assertEqual(row_sum(other=(), row=one), one)
        self.assertEqual(row_product(other=(), row=one), ())
        self.assertEqual(row_product(row(Pair(0, 1), 1), row(Pair(0, -1), 1)), row(1, 0, 1))

    def test_values(self):
        source = random.Random(12)
        for some in rows_to_try(source, 30):
            for at in (Pair(0), Pair(-1), rim(HALF), some_pair(source)):
                self.assertEqual(row_value(some, at.number()), value_of(some, at).number())
        self.assertEqual(row_value(number=num(3), row=row(1, 0, 2)), num(19))
        self.assertEqual(row_value((), num(5)), num(0))

    def test_mirrored(self):
        source = random.Random(13)
        for some in rows_to_try(source, 20):
            self.assertEqual(mirrored_row(row=some), tuple(pair(each).mirrored().number() for each in some))


class DividingTest(unittest.TestCase):
    def test_factor_and_rest(self):
        source = random.Random(14)
        for row_one in rows_to_try(source, 40, 8):
            for other in rows_to_try(source, 4, 4):
                if not other:
                    refused(self, NotNow, None, None, row_divided, row_one, other)
                    continue
                factor, rest = row_divided(row_one, other)
                self.assertTrue(is_row(factor) and is_row(rest))
                self.assertLess(len(rest), len(other))
                self.assertEqual(row_sum(times_rows(factor, other), rest), row_one)

    def test_edges(self):
        self.assertEqual(row_divided(row(1, 2), row(1, 0, 3)), ((), row(1, 2)))
        self.assertEqual(row_divided(row=(), other=row(1, 1)), ((), ()))
        self.assertEqual(row_divided(row(1, 2), row(Pair(0, 2))), (row(Pair(0, -HALF), Pair(0, -1)), ()))
        third = (row(Fraction(3, 5), Fraction(-4, 5), Fraction(1, 5)), ())
        self.assertEqual(row_divided(from_roots((1, 2, 3)), from_roots((2,), 5)), third)
        self.assertEqual(row_divided(row(7, 0, 0, 0, 1), row(0, 0, 1)), (row(0, 0, 1), row(7)))
        self.assertEqual(row_divided(row(1, 1), row(1, 1)), (row(1), ()))

    def test_common_of_made_rows(self):
        source = random.Random(15)
        pool = [Pair(0), Pair(1), Pair(-1), Pair(0, 1), Pair(HALF, -HALF), rim(HALF), Pair(3), Pair(Fraction(-2, 7), 5)]
        for _ in range(60):
            one, other = source.choices(pool, k=source.randint(0, 5)), source.choices(pool, k=source.randint(0, 5))
            shared = [p for p in pool for _ in range(min(count(one, p), count(other, p)))]
            made, beside = from_roots(one, some_last(source)), from_roots(other, some_last(source))
            self.assertEqual(row_common(made, beside), from_roots(shared))

    def test_common_edges(self):
        self.assertEqual(row_common((), ()), ())
        self.assertEqual(row_common(row=(), other=row(2, 4)), row(HALF, 1))
        self.assertEqual(row_common(row(2, Pair(0, 4)), ()), row(Pair(0, -HALF), 1))
        self.assertEqual(row_common(row(7), row(0, 0, 5)), row(1))
        self.assertEqual(row_common(row(7), ()), row(1))
        self.assertEqual(row_common(row(0, 0, 0, 4), row(0, 0, Pair(0, 3), 3)), row(0, 0, 1))
        near = from_roots((1, Fraction(GREAT, GREAT + 1)))
        self.assertEqual(row_common(near, from_roots((1, 1))), row(-1, 1))

    def test_common_whatever_a_prime_tells(self):
        # Numbers that are nought by the prime by which rows are first compared, or one of whose factors is.
        prime, factor = 2305843009213693921, Pair(1458625360, 422202639)
        self.assertEqual(factor.size(), prime)
        for last in (Pair(prime), factor, factor.mirrored(), factor * factor, factor * Pair(2, 5)):
            shared = row(3, 1, last)
            one, other = times_rows(shared, row(2, 1)), times_rows(shared, row(3, 1))
            self.assertEqual(row_common(one, other), row_divided(shared, shared[-1:])[0])
            for hidden in (row(1, last), row(1, 0, last)):
                one, other = times_rows(hidden, row(2, 1)), times_rows(hidden, from_roots((-3, -5)))
                for pair_of_rows in ((one, other), (other, one), (one, hidden), (hidden, one), (other, hidden)):
                    self.assertEqual(row_common(*pair_of_rows), row_divided(hidden, hidden[-1:])[0])
            self.assertEqual(row_common(row(2, last), row(3, last)), row(1))
            self.assertEqual(row_common(row(2, 1), row(Pair(2) + last, 1)), row(1))
            self.assertEqual(row_common(row(2, 1), times_rows(row(2, 1), row(last, 1))), row(2, 1))
            self.assertEqual(row_common(row(last, 0, 1), row(0, 1)), row(1))

    def test_common_of_great_degrees(self):
        source = random.Random(16)
        shared = from_roots([some_pair(source, 3, 3) for _ in range(4)])
        one = times_rows(shared, tuple(some_pair(source).number() for _ in range(16)) + row(1))
        other = times_rows(shared, tuple(some_pair(source).number() for _ in range(15)) + row(1))
        self.assertEqual(row_common(one, other), shared)
        self.assertEqual(row_common(row(-1, *([0] * 89), 1), row(-1, *([0] * 59), 1)), row(-1, *([0] * 29), 1))


def count(pairs, wanted):
    return sum(1 for each in pairs if each == wanted)


def some_last(source):
    return Pair(source.randint(1, 5), source.randint(-3, 3))


class MovingTest(unittest.TestCase):
    def test_row_at(self):
        source = random.Random(17)
        for some in rows_to_try(source, 20):
            at, h = some_pair(source), some_pair(source)
            moved = row_at(some, at.number())
            self.assertTrue(is_row(moved))
            self.assertEqual(len(moved), len(some))
            self.assertEqual(value_of(moved, h), value_of(some, at + h))
        self.assertEqual(row_at(number=num(1), row=row(0, 0, 1)), row(1, 2, 1))
        self.assertEqual(row_at(from_roots((2, 2, 2)), num(2)), row(0, 0, 0, 1))
        self.assertEqual(row_at(row(5, 6, 7), num(0)), row(5, 6, 7))

    def test_row_back(self):
        source = random.Random(18)
        for some in rows_to_try(source, 20):
            for many in (len(some) - 1, len(some), len(some) + 3, 100):
                if many < 0:
                    continue
                at = rim(source.randint(-5, 5))
                power = Pair(1)
                for _ in range(many):
                    power = power * at
                back = row_back(some, many)
                self.assertTrue(is_row(back))
                self.assertEqual(value_of(back, at), power * value_of(some, at).mirrored())
        self.assertEqual(row_back(many=4, row=row(0, 1, Pair(0, 2))), row(0, 0, Pair(0, -2), 1))
        self.assertEqual(row_back(row(0, 1, Pair(0, 2)), 2), row(Pair(0, -2), 1))
        self.assertEqual(row_back(row(5), 0), row(5))
        self.assertEqual(row_back((), 0), ())
        self.assertEqual(row_back((), 100), ())

    def test_row_back_below_the_degree(self):
        refused(self, NotNow, None, None, row_back, row(1, 2, 3), 1)
        refused(self, NotNow, None, None, row_back, row(0, 1), 0)
        refused(self, NotNow, None, None, row_back, row(*([0] * 101), 1), 100)
        self.assertEqual(len(row_back(row(*([1] * 101)), 100)), 101)

    def test_roots_go_across_the_rim(self):
        roots = (Pair(0), Pair(HALF, 1), Pair(3), Pair(3), rim(2))
        back = row_back(from_roots(roots), 7)
        across = [Pair(1) / root.mirrored() for root in roots[1:]] + [Pair(0)] * 2
        self.assertEqual(row_divided(back, back[-1:])[0], from_roots(across))


class RefusalTest(unittest.TestCase):
    def test_rows(self):
        refused_rows = given(InvalidRow, WRONG_ROWS)
        for call in (row_sum, row_less, row_product, row_divided, row_common):
            check_refusals(self, call, (("row", refused_rows, row(1, 2)), ("other", refused_rows, row(0, 1))))
        number = given(InvalidNumber, WRONG_NUMBERS)
        for call in (row_value, row_at):
            check_refusals(self, call, (("row", refused_rows, row(1, 2)), ("number", number, num(3))))
        check_refusals(self, mirrored_row, (("row", refused_rows, row(1, 2)),))
        many = given(InvalidCount, WRONG_WHOLES + (-1, 101, -10 ** 30, 10 ** 30))
        check_refusals(self, row_back, (("row", refused_rows, row(1, 2)), ("many", many, 3)))

    def test_row_from(self):
        check_refusals(self, row_from, (("numbers", indexed(InvalidNumbers, WRONG_NUMBER_TUPLES), (ONE,)),))
        many = (ONE,) * 500 + (None,) + (ONE,) * 5 + (3,)
        refused(self, InvalidNumbers, "index", 500, row_from, many)

    def test_what_is_told_with_last_is_last(self):
        for value in STRANGE + BOOLS:
            refused(self, InvalidRow, "given", value, row_divided, value, ())
            refused(self, InvalidCount, "given", value, row_back, row(1, 2, 3), value)

    def test_numbers_are_reduced(self):
        source = random.Random(19)
        for _ in range(20):
            one, other = some_row(source, 5), row(1, 2, Pair(3, HALF))
            rows = (row_sum(one, other), row_less(one, other), row_product(one, other), row_common(one, other),
                    row_at(one, num(HALF)), row_back(one, 9), mirrored_row(one)) + row_divided(one, other)
            for made in rows:
                self.assertTrue(type(made) is tuple and all(reduced_number(each) for each in made))
                self.assertTrue(not made or made[-1] != num(0))


if __name__ == "__main__":
    unittest.main()
