"""withinrim.pencils: rows of pencils, roots about a fraction, the least, its floor and its order."""

import itertools
import random
import unittest
from fractions import Fraction

from tests.support import (
    BOOLS, ONE, SHAPES, STRANGE, WRONG_FRACTIONS, WRONG_TABLES, WRONG_WHOLES, Pair, check_refusals, data_from, frac,
    given, made_by, num, own_value_table, plain_product, plain_table, rank_of_rows, real_from_roots,
    real_value_of, reduced_fraction, refused, rim_one, row, shape_at, some_mix, some_pair, some_places, times_reals, told,
    turned_over,
)
from withinrim.errors import InvalidCount, InvalidFraction, InvalidPencil
from withinrim.pencils import (
    compare_leasts, is_pencil, least_floor, least_fraction, roots_about, row_of, side_of_least,
)
from withinrim.squares import counts_of
from withinrim.steps import standing
from withinrim.tables import (
    led_table, struck_table, table_multiple, table_sum, tables_beside,
)

ZERO, I = num(0), Pair(0, 1)
PLAIN = (row(1, 0), row(0, 1))
EVEN = (row(1, 1), row(1, 1))
CROSS = (row(0, 1), row(1, 0))
FIRM = (row(2, I), row(Pair(0, -1), 1))
CROSSED, LONGER = (PLAIN, CROSS), (PLAIN, (row(1, 1), row(1, 0)))
# The greatest root of x x - 2, and of (x x - 2)(x - 1).
SQUARE_ROOT = (PLAIN, (row(0, 2), row(2, 0)))
BIG = 10 ** 40


def blocks(parts):
    """The table with parts along the diagonal: Fractions, or pairs (p, q) for p, q; q, - p .. with the roots of it."""
    many = sum(1 if isinstance(each, (int, Fraction)) else 2 for each in parts)
    table = [[Pair(0)] * many for _ in range(many)]
    at = 0
    for each in parts:
        if isinstance(each, (int, Fraction)):
            table[at][at] = Pair(each)
            at += 1
        else:
            p, q = each
            table[at][at], table[at + 1][at + 1] = Pair(p), Pair(0)
            table[at][at + 1], table[at + 1][at] = Pair(q), Pair(q)
            at += 2
    return table


def pencil_with(source, parts):
    """A pencil with the roots of the parts: a Fraction itself, (p, q) the roots of x x - p x - q q."""
    inner = blocks(parts)
    many = len(inner)
    while True:
        led = [[some_pair(source, 3, 2) for _ in range(many)] for _ in range(many)]
        if rank_of_rows([[each.number() for each in line] for line in led]) == many:
            break
    other = turned_over(led)
    return plain_table(plain_product(led, other)), plain_table(plain_product(plain_product(led, inner), other))


def row_with(parts):
    """The row of the parts."""
    total = real_from_roots([])
    for each in parts:
        if isinstance(each, (int, Fraction)):
            total = times_reals(total, real_from_roots([each]))
        else:
            p, q = Fraction(each[0]), Fraction(each[1])
            total = times_reals(total, (told(-q * q), told(-p), (1, 1)))
    return total


PARTS = (
    (3,), (0,), (Fraction(-7, 3),), ((0, 1),), ((1, 1),), (2, 2), (2, 2, 2), (0, 0), (-1, -2, -3), (Fraction(1, 2), Fraction(1, 3), 5),
    ((1, 2), 3), ((1, 2), 1), ((1, 1), (1, 1)), ((0, 2), (0, 2), 1), ((1, 1), Fraction(8, 5)), ((1, 1), Fraction(13, 8)),
    ((0, Fraction(1, 7)), (0, 7), Fraction(-1, 9)), ((-9, 1), (-7, 2)), (1, 1, 1, 4, 4, Fraction(7, 2)), ((3, 1), (3, 1), (3, 1)),
    ((-5, 3), Fraction(22, 7), Fraction(355, 113), 0), (Fraction(10 ** 20 + 1, 10 ** 20), 1, 1), ((0, 1), 1), (-10 ** 15, 1),
)


def is_up_to_least(parts, x):
    """Whether a Fraction is up to the greatest root of the parts."""
    found = False
    for each in parts:
        if isinstance(each, (int, Fraction)):
            found = found or x <= each
        else:
            p, q = Fraction(each[0]), Fraction(each[1])
            # x x - p x - q q has one root from 0 on, at which it grows.
            found = found or x <= 0 or x * x - p * x - q * q <= 0
    return found


def cases(seed):
    source = random.Random(seed)
    return [(parts, pencil_with(source, parts)) for parts in PARTS]


class PencilTest(unittest.TestCase):
    def test_what_pencils_are(self):
        for pencil in (CROSSED, LONGER, (FIRM, EVEN), (((ONE,),), ((num(-5),),)), (PLAIN, (row(0, 0), row(0, 0)))):
            self.assertIs(is_pencil(pencil), True)
            self.assertIs(is_pencil(value=list(pencil)), False)
            self.assertIs(is_pencil(pencil + pencil), False)
            self.assertIs(is_pencil(pencil[:1]), False)
        for pencil in ((EVEN, CROSS), (CROSS, PLAIN), ((), ()), (((num(-1),),), ((ONE,),)), (((ZERO,),), ((ONE,),)),
                       (PLAIN, ((ONE,),)), (((ONE,),), PLAIN), (PLAIN, ()), ((), PLAIN), ((row(1, 2), row(3, 1)), PLAIN)):
            self.assertIs(is_pencil(pencil), False, pencil)

    def test_whatever_is_passed(self):
        for value in STRANGE + BOOLS:
            self.assertIs(is_pencil(value), False)
            self.assertIs(is_pencil((PLAIN, value)), False)
            self.assertIs(is_pencil((value, PLAIN)), False)
        for value, _ in WRONG_TABLES:
            self.assertIs(is_pencil((PLAIN, value)), False)
            self.assertIs(is_pencil((value, value)), False)

    def test_six_rows(self):
        six = tuple(tuple(ONE if i == j else ZERO for j in range(6)) for i in range(6))
        self.assertIs(is_pencil((six, six)), True)
        self.assertEqual(least_fraction((six, six)), (1, 1))
        seven = tuple(tuple(ONE if i == j else ZERO for j in range(7)) for i in range(7))
        self.assertIs(is_pencil((seven, seven)), False)


class RowTest(unittest.TestCase):
    def test_by_hand(self):
        self.assertEqual(row_of(CROSSED), ((-1, 1), (0, 1), (1, 1)))
        self.assertEqual(row_of(pencil=LONGER), ((-1, 1), (-1, 1), (1, 1)))
        self.assertEqual(row_of((((num(3),),), ((num(-5),),))), ((5, 3), (1, 1)))
        # x S - R: 2 x - 1, i x - 1; - i x - 1, x - 1: x x - 3 x + 0.
        self.assertEqual(row_of((FIRM, EVEN)), ((0, 1), (-3, 1), (1, 1)))
        self.assertEqual(row_of((PLAIN, (row(0, 0), row(0, 0)))), ((0, 1), (0, 1), (1, 1)))

    def test_known_roots(self):
        for parts, pencil in cases(71):
            found = row_of(pencil)
            self.assertEqual(found, row_with(parts))
            self.assertTrue(all(reduced_fraction(each) for each in found))

    def test_roots_about(self):
        for parts, pencil in cases(72):
            plain = [each for each in parts if isinstance(each, (int, Fraction))]
            for x in {Fraction(each) for each in plain} | {Fraction(0), Fraction(7, 2), Fraction(-100), Fraction(10 ** 30)}:
                below = sum(1 for each in plain if each < x)
                above = sum(1 for each in plain if each > x)
                for p, q in [each for each in parts if not isinstance(each, (int, Fraction))]:
                    # One root is above 0 and one below, of one sign of the value about them.
                    value = x * x - Fraction(p) * x - Fraction(q) ** 2
                    ends = (1, 1) if value < 0 else ((2, 0) if x > 0 else (0, 2))
                    if value == 0:
                        ends = (1, 0) if x > 0 else (0, 1)
                    below, above = below + ends[0], above + ends[1]
                many = len(pencil[0])
                self.assertEqual(roots_about(pencil, told(x)), (below, many - below - above, above), (parts, x))
                counts = counts_of(table_sum(table_multiple(pencil[0], told(x)), table_multiple(pencil[1], (-1, 1))))
                self.assertEqual(roots_about(pencil, told(x)), counts)
                self.assertEqual(real_value_of(row_of(pencil), x) == 0, many > below + above)


class LeastTest(unittest.TestCase):
    def test_sides(self):
        self.assertEqual([side_of_least(CROSSED, (1, 1)), side_of_least(LONGER, (-5, 1)), side_of_least(LONGER, (2, 1))], [0, -1, 1])
        for parts, pencil in cases(73):
            for x in [each for each in parts if isinstance(each, (int, Fraction))] + [Fraction(-10 ** 20), Fraction(0), Fraction(10 ** 20), Fraction(8, 5)]:
                x = Fraction(x)
                is_least = not is_up_to_least(parts, x + Fraction(1, 10 ** 40)) and is_up_to_least(parts, x)
                expected = 0 if is_least and real_value_of(row_with(parts), x) == 0 else (-1 if is_up_to_least(parts, x) else 1)
                self.assertEqual(side_of_least(pencil, told(x)), expected, (parts, x))

    def test_floors(self):
        self.assertEqual([least_floor(LONGER, 10), least_floor(pencil=SQUARE_ROOT, count=1), least_floor(CROSSED, 7)], [16, 2, 7])
        self.assertEqual(least_floor((PLAIN, (row(-1, 0), row(0, -3))), 3), -3)
        self.assertEqual(least_floor((((num(3),),), ((num(-5),),)), 1), -2)
        for parts, pencil in cases(74):
            for count in (1, 2, 3, 7, 1000, 10 ** 12, 3 ** 40, BIG - 1, BIG):
                found = least_floor(pencil, count)
                self.assertIs(type(found), int)
                self.assertTrue(is_up_to_least(parts, Fraction(found, count)), (parts, count))
                self.assertFalse(is_up_to_least(parts, Fraction(found + 1, count)), (parts, count))

    def test_fractions(self):
        self.assertEqual(least_fraction(CROSSED), (1, 1))
        self.assertIsNone(least_fraction(pencil=LONGER))
        for parts, pencil in cases(75):
            plain = [Fraction(each) for each in parts if isinstance(each, (int, Fraction))]
            whole = [(Fraction(p), Fraction(q)) for p, q in [each for each in parts if not isinstance(each, (int, Fraction))]]
            # (p + root of p p + 4 q q) / 2 is a fraction exactly if that is a square.
            for p, q in whole:
                square = p * p + 4 * q * q
                n, m = (next((k for k in range(200) if k * k == part), None) for part in (square.numerator, square.denominator))
                plain += [(p + Fraction(n, m)) / 2] if n is not None and m is not None else []
            found = least_fraction(pencil)
            best = max(plain) if plain else None
            if best is not None and not is_up_to_least(parts, best + Fraction(1, 10 ** 45)):
                self.assertEqual(found, told(best), parts)
                self.assertEqual(side_of_least(pencil, found), 0)
            else:
                self.assertIsNone(found, parts)

    def test_a_root_just_below_a_least_that_is_no_fraction(self):
        # 1 and 1.618 ..: at 1 the whole row is nought, and 1 is the floor.
        source = random.Random(76)
        for parts, expected in (((1, (1, 1)), None), ((2, (1, 1)), (2, 1)), ((1, 1, (1, 1)), None), ((1, (2, 1)), None),
                                ((Fraction(3, 2), (3, 1)), None), ((4, (0, 4)), (4, 1)), (((0, 4), Fraction(9, 2)), (9, 2))):
            self.assertEqual(least_fraction(pencil_with(source, parts)), expected, parts)

    def test_great_numbers(self):
        great = 10 ** 120 + 7
        self.assertEqual(least_fraction((((num(3),),), ((num(great),),))), told(Fraction(great, 3)))
        self.assertEqual(least_floor((((num(3),),), ((num(great),),)), BIG), great * BIG // 3)
        wide = (PLAIN, (row(-great, 1), row(1, Fraction(1, great))))
        self.assertEqual(least_floor(wide, 1), 0)
        self.assertIsNone(least_fraction(wide))
        self.assertEqual(least_floor((PLAIN, (row(-great, 0), row(0, -1))), 10), -10)


class OrderTest(unittest.TestCase):
    def test_by_hand(self):
        self.assertEqual([compare_leasts(LONGER, CROSSED), compare_leasts(CROSSED, LONGER), compare_leasts(LONGER, LONGER)], [1, -1, 0])
        single = (((ONE,),), ((ONE,),))
        self.assertEqual([compare_leasts(single, CROSSED), compare_leasts(pencil=CROSSED, other=single)], [0, 0])
        self.assertEqual(compare_leasts(single, LONGER), -1)

    def test_alike_with_other_roots_besides(self):
        source = random.Random(77)
        alike = (
            (((1, 1),), ((1, 1), 1)), (((1, 1), (1, 1)), (Fraction(8, 5), (1, 1))), (((0, 1),), (1, 1, 1)), ((2, (0, 1)), (2, 2)),
            (((1, 1), Fraction(161803398, 10 ** 8)), ((1, 1), Fraction(161803, 10 ** 5), -7)), ((5,), (5, (3, 1))), ((-4,), (-9, -4)),
        )
        for one, two in alike:
            first, second = pencil_with(source, one), pencil_with(source, two)
            self.assertEqual(compare_leasts(first, second), 0, (one, two))
            self.assertEqual(compare_leasts(second, first), 0)
        # Other roots in common, leasts hardly apart.
        golden = Fraction(161803398874989484820458683436563811772, 10 ** 38)
        unlike = (
            ((Fraction(161803398, 10 ** 8),), ((1, 1),)), (((1, 1),), (Fraction(161803399, 10 ** 8), (1, 1))), (((1, 1), 1), ((1, 1), 2)),
            ((golden, (1, 1)), (golden + Fraction(1, 10 ** 38), (1, 1))), (((1, 1),), (golden + Fraction(1, 10 ** 38),)),
            ((golden,), ((1, 1),)), ((3, 4), (3, 4, Fraction(10 ** 60 + 1, 10 ** 60) * 4)), ((-2,), (-1, -2)), (((0, 1), -3), ((0, 2), -3)),
            ((1, (0, 7)), (1, (0, Fraction(7 * 10 ** 30 + 1, 10 ** 30)))), ((-10 ** 15, 1), (-10 ** 15, Fraction(10 ** 9 + 1, 10 ** 9))),
        )
        for one, two in unlike:
            first, second = pencil_with(source, one), pencil_with(source, two)
            self.assertEqual(compare_leasts(first, second), -1, (one, two))
            self.assertEqual(compare_leasts(second, first), 1)

    def test_all_pairs(self):
        made = cases(78)
        for (one, first), (two, second) in itertools.combinations(made, 2):
            low, high = least_floor(first, BIG), least_floor(second, BIG)
            if low != high:
                self.assertEqual(compare_leasts(first, second), -1 if low < high else 1, (one, two))
        for parts, pencil in made:
            self.assertEqual(compare_leasts(pencil, pencil), 0)


class LeadingTest(unittest.TestCase):
    def test_led_by_independent_mixes(self):
        source = random.Random(79)
        for parts, pencil in cases(80):
            many = len(pencil[0])
            while True:
                mixes = tuple(some_mix(source, many) for _ in range(many))
                if rank_of_rows(mixes) == many:
                    break
            led = (led_table(pencil[0], mixes), led_table(pencil[1], mixes))
            self.assertIs(is_pencil(led), True)
            self.assertEqual(row_of(led), row_of(pencil))
            self.assertEqual(compare_leasts(led, pencil), 0)

    def test_shifted_and_multiplied(self):
        for parts, (s, r) in cases(81):
            for x in (Fraction(3), Fraction(-5, 7), Fraction(1, 9)):
                shifted = (s, table_sum(r, table_multiple(s, told(x))))
                found = least_fraction((s, r))
                self.assertEqual(least_fraction(shifted), None if found is None else told(frac(found) + x))
                self.assertEqual(least_floor(shifted, 7 * 9), least_floor((s, r), 63) + int(63 * x))
                if x > 0:
                    larger = (s, table_multiple(r, told(x)))
                    self.assertEqual(least_fraction(larger), None if found is None else told(frac(found) * x))
                    self.assertEqual(least_floor(larger, int(1 / x) * 9 if x < 1 else 5), least_floor((s, r), 9 if x < 1 else 15))

    def test_struck(self):
        for parts, (s, r) in cases(82):
            for at in range(len(s)):
                if len(s) > 1:
                    struck = (struck_table(s, at), struck_table(r, at))
                    self.assertIs(is_pencil(struck), True)
                    self.assertIn(compare_leasts(struck, (s, r)), (-1, 0))

    def test_sums_and_beside(self):
        source = random.Random(83)
        for _ in range(12):
            many = source.randint(1, 4)
            s = made_by([((1, 1), some_mix(source, many - 1) + (ONE,)) for _ in range(many + 2)], many)
            if rank_of_rows(s) < many:
                continue
            r, q = [made_by([(told(Fraction(sign, 2)), some_mix(source, many)) for sign in (1, -3, 1)], many) for _ in range(2)]
            one, two, both = [least_floor((s, each), 10 ** 20) for each in (r, q, table_sum(r, q))]
            self.assertLessEqual(both, one + two + 1)
            if many <= 3:
                beside = (tables_beside(s, s), tables_beside(r, q))
                larger = r if compare_leasts((s, r), (s, q)) > 0 else q
                self.assertEqual(compare_leasts(beside, (s, larger)), 0)
                self.assertEqual(row_of(beside), times_reals(row_of((s, r)), row_of((s, q))))


class PlacesTest(unittest.TestCase):
    def test_pencils_of_data(self):
        # Of a rim one with fewer roots than VALUES the bound is the least: see the standings below, at and above it.
        source = random.Random(84)
        for counts in SHAPES:
            factor = source.choice((Pair(2), Pair(0, Fraction(1, 3)), Pair(1, 1), Pair(Fraction(3, 5), Fraction(4, 5))))
            quotient = rim_one(factor, some_places(source, source.randint(0, min(3, sum(counts) - 1))))
            data = data_from(quotient, shape_at(source, counts))
            pencil = own_value_table(data)
            self.assertIs(is_pencil(pencil), True)
            bound = factor.size()
            self.assertEqual(least_fraction(pencil), told(bound))
            for x, word in ((bound * Fraction(99, 100), "none"), (bound, "one"), (bound * Fraction(101, 100), "many")):
                self.assertEqual(standing(data, told(x)), word)
                self.assertEqual(side_of_least(pencil, told(x)), {"none": -1, "one": 0, "many": 1}[word])
            self.assertEqual(roots_about(pencil, (-1, 10 ** 9))[0], 0)

    def test_leasts_that_are_no_fractions(self):
        source = random.Random(85)
        for counts in SHAPES:
            data = tuple((place.number(), tuple(some_pair(source, 3, 2).number() for _ in range(many)))
                         for place, many in shape_at(source, counts))
            pencil = own_value_table(data)
            self.assertIs(is_pencil(pencil), True)
            count = source.choice((3, 10 ** 6, 10 ** 25))
            found = least_floor(pencil, count)
            above = standing(data, told(Fraction(found + 1, count)))
            self.assertEqual(above, "many")
            if found > 0:
                self.assertEqual(standing(data, told(Fraction(found, count))), "one" if least_fraction(pencil) == told(Fraction(found, count)) else "none")
            self.assertGreaterEqual(found, 0)
            if sum(counts) > 1:
                fewer = data[:-1] if counts[-1] == 1 else data[:-1] + ((data[-1][0], data[-1][1][:-1]),)
                self.assertIn(compare_leasts(own_value_table(fewer), pencil), (-1, 0))

    def test_noughts(self):
        data = ((ZERO, (ZERO, ZERO)), (num(Fraction(1, 2)), (ZERO,)))
        pencil = own_value_table(data)
        self.assertEqual([least_fraction(pencil), side_of_least(pencil, (0, 1)), least_floor(pencil, 5)], [(0, 1), 0, 0])
        self.assertEqual(row_of(pencil), ((0, 1), (0, 1), (0, 1), (1, 1)))
        self.assertEqual(standing(data, (1, 10 ** 30)), "many")


WRONG_PENCILS = STRANGE + BOOLS + (
    0, (), ((), ()), PLAIN, (PLAIN,), (PLAIN, PLAIN, PLAIN), [PLAIN, PLAIN], (EVEN, CROSS), (CROSS, PLAIN), (PLAIN, ()), (PLAIN, None),
    (None, PLAIN), (list(PLAIN), PLAIN), (PLAIN, list(PLAIN)), (PLAIN, ((ONE,),)), (((ONE,),), PLAIN), (((ZERO,),), ((ONE,),)),
    (((num(-1),),), ((ONE,),)), (PLAIN, (row(0, 1), row(I, 0))), ((row(1, 1), row(2, 1)), PLAIN), (((num(0, 1),),), ((ONE,),)),
    (PLAIN, (row(0, 1), (ONE, True))), (PLAIN, ((ONE, ZERO), (ZERO, ((2, 2), (0, 1))))),
)
WRONG_COUNTS = WRONG_WHOLES + (0, -1, BIG + 1, 10 ** 60, -BIG)


class RefusalTest(unittest.TestCase):
    def test_wrong_arguments(self):
        pencil = ("pencil", given(InvalidPencil, WRONG_PENCILS), LONGER)
        for call in (row_of, least_fraction):
            check_refusals(self, call, (pencil,))
        for call in (roots_about, side_of_least):
            check_refusals(self, call, (pencil, ("fraction", given(InvalidFraction, WRONG_FRACTIONS), (-2, 3))))
        check_refusals(self, least_floor, (pencil, ("count", given(InvalidCount, WRONG_COUNTS), 3)))
        check_refusals(self, compare_leasts, (pencil, ("other", given(InvalidPencil, WRONG_PENCILS), CROSSED)))

    def test_counts_of_just_the_limit(self):
        self.assertEqual(least_floor(CROSSED, BIG), BIG)
        refused(self, InvalidCount, "given", BIG + 1, least_floor, CROSSED, BIG + 1)


if __name__ == "__main__":
    unittest.main()
