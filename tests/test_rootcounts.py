"""Counts of roots in the disc, on the rim and beyond, and the rows in which they are counted."""

import random
import unittest
from fractions import Fraction

from tests.support import (
    BOOLS, STRANGE, WRONG_NUMBERS, WRONG_ROWS, Pair, check_refusals, from_roots, given, num, pair, real_value_of,
    refused, rim, row, some_fraction, some_pair, some_row, times_rows, value_of,
)
from withinrim.errors import InvalidNumber, InvalidRow, NotNow
from withinrim.realrows import is_real_row
from withinrim.rootcounts import rim_rows, root_counts, times_root
from withinrim.rows import mirrored_row, row_back

HALF = Fraction(1, 2)
# Roots in the disc, on the rim and beyond; the first of the disc is 0, the first of the rim is -1.
WITHIN = (Pair(0), Pair(HALF), Pair(-HALF, HALF), Pair(0, Fraction(-2, 3)), Pair(Fraction(999999, 1000000)))
RIM = (Pair(-1), Pair(1), Pair(0, 1), rim(HALF), rim(-3), Pair(Fraction(-4, 5), Fraction(-3, 5)))
BEYOND = (Pair(2), Pair(-1, 1), Pair(0, Fraction(-3, 2)), Pair(Fraction(1000001, 1000000)), Pair(-50, 7))
# ROWs whose roots are no NUMBERs, with how many are within, on the rim, beyond.
ROUGH = (
    (row(-2, 0, 1), (0, 0, 2)), (row(-1, 0, 2), (2, 0, 0)), (row(1, 1, 1), (0, 2, 0)), (row(1, 0, 0, 0, 1), (0, 4, 0)),
    (row(1, -3, 1), (1, 0, 1)), (row(1, Pair(0, 3), 1), (1, 0, 1)), (row(3, 1, 1, 1), (0, 0, 3)), (row(1, 1, 1, 3), (3, 0, 0)),
    (row(1, 0, 9, 2, Pair(0, 3)), (2, 0, 2)), (row(1, 1, 1, 1, 1), (0, 4, 0)), (row(2, -5, 2, 0, 0, -1), None),
)


def place(root):
    size = root.size()
    return 0 if size < 1 else 1 if size == 1 else 2


def added(one, other):
    return tuple(x + y for x, y in zip(one, other))


class CountsTest(unittest.TestCase):
    def test_made_rows(self):
        source = random.Random(31)
        pool = WITHIN + RIM + BEYOND + tuple(Pair(1) / each.mirrored() for each in WITHIN[1:4])
        for _ in range(120):
            roots = source.choices(pool, k=source.randint(0, 6))
            expected = tuple(sum(1 for root in roots if place(root) == at) for at in range(3))
            made = from_roots(roots, some_pair(source) + Pair(20, 0))
            self.assertEqual(root_counts(made), expected, [(r.re, r.im) for r in roots])
            self.assertEqual(root_counts(mirrored_row(made)), expected)

    def test_multiple_roots(self):
        for root in (Pair(0), Pair(-1), Pair(1), rim(2), Pair(HALF), Pair(3, 1)):
            for many in (1, 2, 3, 5):
                made = from_roots([root] * many)
                self.assertEqual(root_counts(made), tuple(many if place(root) == at else 0 for at in range(3)))
                self.assertEqual(times_root(made, root.number()), many)
        self.assertEqual(root_counts(from_roots([Pair(-1)] * 3 + [Pair(0)] * 2 + [Pair(HALF), Pair(2)])), (3, 3, 1))
        self.assertEqual(root_counts(from_roots([Pair(HALF)] * 3 + [Pair(2)] * 3)), (3, 0, 3))
        self.assertEqual(root_counts(from_roots([Pair(HALF)] * 3 + [Pair(2)] * 2 + [Pair(-1)] * 2)), (3, 2, 2))

    def test_roots_that_are_no_numbers(self):
        source = random.Random(32)
        for made, expected in ROUGH[:-1]:
            self.assertEqual(root_counts(made), expected)
            for other, others in ROUGH[:-1]:
                self.assertEqual(root_counts(times_rows(made, other)), added(expected, others))
            roots = source.choices(WITHIN + RIM + BEYOND, k=3)
            counts = tuple(sum(1 for root in roots if place(root) == at) for at in range(3))
            self.assertEqual(root_counts(times_rows(made, from_roots(roots))), added(expected, counts))

    def test_one_great_number_tells(self):
        # Where one NUMBER outweighs all others on the rim, as many roots are in the disc as its index tells.
        source = random.Random(33)
        for _ in range(60):
            numbers = [some_pair(source) for _ in range(source.randint(1, 8))] + [Pair(1)]
            heavy = source.randrange(len(numbers))
            numbers[heavy] = Pair(0, sum(abs(each.re) + abs(each.im) for each in numbers) + 1)
            made = row(*numbers)
            self.assertEqual(root_counts(made), (heavy, 0, len(numbers) - 1 - heavy))

    def test_led_rows(self):
        source = random.Random(34)
        for _ in range(40):
            made = times_rows(source.choice(ROUGH)[0], from_roots(source.choices(WITHIN + RIM + BEYOND, k=2)))
            within, on_rim, beyond = root_counts(made)
            noughts = times_root(made, num(0))
            degree = len(made) - 1
            self.assertEqual(within + on_rim + beyond, degree)
            for many in (degree, degree + 1, degree + 4):
                back = root_counts(row_back(made, many))
                self.assertEqual(back, (beyond + many - degree, on_rim, within - noughts))
            turn = source.choice(RIM)
            power, turned = Pair(1), []
            for each in made:
                turned.append(pair(each) * power)
                power = power * turn
            self.assertEqual(root_counts(row(*turned)), (within, on_rim, beyond))
            self.assertEqual(root_counts(times_rows(made, row(Pair(3, -7)))), (within, on_rim, beyond))
            self.assertEqual(root_counts(times_rows(made, made)), (2 * within, 2 * on_rim, 2 * beyond))

    def test_edges(self):
        self.assertEqual(root_counts(row(5)), (0, 0, 0))
        self.assertEqual(root_counts(row=row(0, Pair(0, 1))), (1, 0, 0))
        self.assertEqual(root_counts(row(1, 1)), (0, 1, 0))
        self.assertEqual(root_counts(row(*([0] * 90), 1)), (90, 0, 0))
        self.assertEqual(root_counts(row(-1, *([0] * 39), 1)), (0, 40, 0))
        self.assertEqual(root_counts(row(-1, *([0] * 39), 2)), (40, 0, 0))
        near = Fraction(1, 10 ** 60)
        self.assertEqual(root_counts(from_roots((1 - near, 1, 1 + near, -1 + near, Pair(0, 1 + near)))), (2, 1, 2))
        refused(self, NotNow, None, None, root_counts, ())


class RimRowsTest(unittest.TestCase):
    def test_values(self):
        source = random.Random(35)
        for _ in range(60):
            some = some_row(source, 6) + row(Pair(2, 1))
            upper, side = rim_rows(some)
            self.assertTrue(is_real_row(upper) and is_real_row(side))
            self.assertLessEqual(max(len(upper), len(side)), len(some))
            for _ in range(4):
                x = some_fraction(source, 20, 7)
                factor = Pair(1)
                for _ in some[1:]:
                    factor = factor * Pair(1, -x)
                self.assertEqual(Pair(real_value_of(upper, x), real_value_of(side, x)), factor * value_of(some, rim(x)))

    def test_edges(self):
        self.assertEqual(rim_rows(row(0, 1)), (((1, 1),), ((0, 1), (1, 1))))
        self.assertEqual(rim_rows(row(Pair(HALF, -2))), (((1, 2),), ((-2, 1),)))
        self.assertEqual(rim_rows(row(7)), (((7, 1),), ()))
        self.assertEqual(rim_rows(row(Pair(0, 7))), ((), ((7, 1),)))
        # 1 + z times 1 - i x is 2; 1 - z is - 2 i x.
        self.assertEqual(rim_rows(row=row(1, 1)), (((2, 1),), ()))
        self.assertEqual(rim_rows(row(1, -1)), ((), ((0, 1), (-2, 1))))
        self.assertEqual(rim_rows(row(Fraction(3, 2), Fraction(3, 2))), (((3, 1),), ()))
        refused(self, NotNow, None, None, rim_rows, ())


class TimesRootTest(unittest.TestCase):
    def test_made_rows(self):
        source = random.Random(36)
        pool = WITHIN + RIM + BEYOND
        for _ in range(60):
            roots, asked = source.choices(pool, k=source.randint(0, 5)), source.choice(pool)
            made = from_roots(roots, Pair(2, -3))
            self.assertEqual(times_root(made, asked.number()), sum(1 for root in roots if root == asked))
        self.assertEqual(times_root(number=num(0), row=row(0, 0, 4)), 2)
        self.assertEqual(times_root(row(4), num(0)), 0)
        refused(self, NotNow, None, None, times_root, (), num(1))


class RefusalTest(unittest.TestCase):
    def test_refusals(self):
        wrong = given(InvalidRow, WRONG_ROWS)
        for call in (rim_rows, root_counts):
            check_refusals(self, call, (("row", wrong, row(1, 2)),))
        check_refusals(self, times_root, (("row", wrong, row(1, 2)), ("number", given(InvalidNumber, WRONG_NUMBERS), num(3))))
        for value in STRANGE + BOOLS:
            refused(self, InvalidNumber, "given", value, times_root, (), value)

    def test_counts_are_whole_numbers(self):
        for made, _ in ROUGH:
            counts = root_counts(made)
            self.assertTrue(type(counts) is tuple and [type(each) for each in counts] == [int] * 3)
            self.assertEqual(sum(counts), len(made) - 1)


if __name__ == "__main__":
    unittest.main()
