"""withinrim.data: what DATA are, their table, whether a QUOTIENT has them, and one pair more."""

import random
import unittest
from fractions import Fraction

from tests.support import (
    BOOLS, HALF, ONE, SHAPES, STRANGE, WRONG_BOUNDS, WRONG_DATA, WRONG_NUMBERS, WRONG_PLACES, WRONG_QUOTIENTS, Pair,
    check_bound_left_out, check_refusals, data_from, given, indexed, kernel_by_h, made_quotient, num, own_table, pair, rim, row, shape_at,
    some_pair, some_row, told,
)
from withinrim.data import does_have, is_data, joined, many_values, table_of
from withinrim.errors import (
    Alike, InvalidData, InvalidFraction, InvalidNumber, InvalidPlace, InvalidQuotient, TooMany,
)
from withinrim.tables import is_table

ZERO, I = num(0), Pair(0, 1)
QUARTER = num(Fraction(1, 4))
TWO = ((ZERO, (ZERO,)), (HALF, (QUARTER,)))
SIX = tuple((num(Fraction(k, 7)), (num(k),)) for k in range(6))
THREES = ((ZERO, (ONE, ONE, ONE)), (HALF, (ZERO, num(5), num(0, 7))))
RIGHT = (
    (), ((ZERO, (ONE,)),), TWO, TWO[::-1], SIX, THREES, ((HALF, (num(100, -3),)),), ((HALF, (ZERO, ZERO, ZERO)),),
    ((num(0, Fraction(1, 2)), (ONE,)), (num(0, Fraction(-1, 2)), (ONE, ONE))),
    ((num(Fraction(10 ** 40 - 1, 10 ** 40)), (num(10 ** 50, Fraction(1, 10 ** 60)),)),),
)


def any_data(source, counts):
    """DATA with any VALUES."""
    return tuple((place.number(), tuple(some_pair(source).number() for _ in range(many)))
                 for place, many in shape_at(source, counts))


class DataTest(unittest.TestCase):
    def test_what_data_are(self):
        for data in RIGHT:
            self.assertIs(is_data(data), True, data)
            self.assertIs(is_data(value=list(data)), False)
            self.assertEqual(many_values(data), sum(len(values) for _, values in data))
        self.assertEqual([many_values(()), many_values(TWO), many_values(data=SIX), many_values(THREES)], [0, 2, 6, 6])

    def test_what_are_none(self):
        for value, _ in WRONG_DATA:
            self.assertIs(is_data(value), False, value)
        for value in STRANGE + BOOLS:
            self.assertIs(is_data(value), value == () and type(value) is tuple, value)
            self.assertIs(is_data((value,)), False)
            self.assertIs(is_data((TWO[0], (HALF, value))), False)
            self.assertIs(is_data((TWO[0], (HALF, (value,)))), False)
            self.assertIs(is_data((TWO[0], (value, (ONE,)))), False)
        for place in WRONG_PLACES:
            self.assertIs(is_data(((place, (ONE,)),)), False, place)
        for number in WRONG_NUMBERS:
            self.assertIs(is_data(((HALF, (ONE, number)),)), False, number)

    def test_up_to_six_values_up_to_three_at_a_place(self):
        for counts in SHAPES:
            data = any_data(random.Random(1), counts)
            self.assertIs(is_data(data), True)
            self.assertEqual(many_values(data), sum(counts))
            more = data + ((num(Fraction(9, 11)), (ONE,)),)
            self.assertIs(is_data(more), sum(counts) < 6)
        self.assertIs(is_data(((ZERO, (ONE,) * 3), (HALF, (ONE,) * 2), (num(0, Fraction(1, 2)), (ONE,)))), True)
        self.assertIs(is_data(((ZERO, (ONE,) * 3), (HALF, (ONE,) * 2), (num(0, Fraction(1, 2)), (ONE,) * 2))), False)
        self.assertIs(is_data(((ZERO, (ONE,) * 4),)), False)
        self.assertIs(is_data(((ZERO, ()),)), False)
        self.assertIs(is_data(TWO + TWO[:1]), False)


class TableTest(unittest.TestCase):
    def test_by_hand(self):
        self.assertEqual(table_of(TWO), (row(1, 1), row(1, Fraction(5, 4))))
        self.assertEqual(table_of(()), ())
        self.assertEqual(table_of(data=((ZERO, (num(3),)),), bound=(4, 1)), ((num(-5),),))
        # 1 and i h at 0: the rows (1, 0) and (i, 1), so 1, - i; i, 2.
        self.assertEqual(table_of(((ZERO, (ONE, I.number())),), (5, 1)), (row(4, I), row(Pair(0, -1), 3)))
        # At 1 / 2 of 1 / (1 - (1 / 2 + h)(1 / 2 + k)'): 4 / 3, 8 / 9; 8 / 9, 16 / 9 + 8 / 27 .. = 80 / 27.
        place = ((HALF, (ZERO, ZERO)),)
        self.assertEqual(table_of(place), (row(Fraction(4, 3), Fraction(8, 9)), row(Fraction(8, 9), Fraction(80, 27))))

    def test_one_value_at_each_place(self):
        source = random.Random(2)
        for _ in range(20):
            data = any_data(source, (1,) * source.randint(1, 6))
            bound = Fraction(source.randint(1, 40), source.randint(1, 6))
            expected = tuple(tuple(
                ((Pair(bound) - pair(w) * pair(v).mirrored()) / (Pair(1) - pair(z) * pair(y).mirrored())).number()
                for y, (v,) in data) for z, (w,) in data)
            self.assertEqual(table_of(data, told(bound)), expected)

    def test_all_shapes(self):
        source = random.Random(3)
        for counts in SHAPES:
            data = any_data(source, counts)
            bound = Fraction(source.randint(1, 9), source.randint(1, 9))
            table = table_of(data, told(bound))
            self.assertEqual(table, own_table(data, bound), counts)
            self.assertIs(is_table(table), True)
            self.assertEqual(table_of(data), own_table(data, 1))
            self.assertEqual(table_of(data, (1, 1)), table_of(data))

    def test_the_kernel_is_the_sum_that_is_told(self):
        # The tests' own kernel, from the function, against the sum of [10], by hand for a = 2, b = 1.
        z, y = Pair(Fraction(1, 2), Fraction(1, 3)), Pair(0, Fraction(1, 2))
        under = Pair(1) - z * y.mirrored()
        first = Pair(3) * y.mirrored() * y.mirrored() * z / (under * under * under * under)
        second = Pair(2) * y.mirrored() / (under * under * under)
        self.assertEqual(kernel_by_h(z, y, 2, 1), first + second)
        data = ((z.number(), (ZERO,) * 3), (y.number(), (ZERO, ZERO)))
        self.assertEqual(table_of(data)[2][4], (first + second).number())
        self.assertEqual(table_of(data)[4][2], (first + second).mirrored().number())


class HavingTest(unittest.TestCase):
    def test_what_a_quotient_has(self):
        source = random.Random(4)
        for counts in SHAPES:
            quotient = made_quotient((ONE,) + some_row(source, 4), row(3, Pair(0, 1), Fraction(1, 2)))
            data = data_from(quotient, shape_at(source, counts))
            self.assertIs(does_have(data, quotient), True)
            self.assertIs(does_have(data=data[::-1], quotient=quotient), True)
            for at, (place, values) in enumerate(data):
                for k in range(len(values)):
                    other = values[:k] + ((pair(values[k]) + Pair(0, Fraction(1, 99))).number(),) + values[k + 1:]
                    self.assertIs(does_have(data[:at] + ((place, other),) + data[at + 1:], quotient), False)

    def test_by_hand(self):
        line = (row(0, 1), row(1))
        self.assertIs(does_have(((ZERO, (ZERO, ONE, ZERO)), (HALF, (HALF, ONE))), line), True)
        self.assertIs(does_have(((ZERO, (ZERO, ONE, ONE)),), line), False)
        self.assertIs(does_have((), line), True)
        self.assertIs(does_have(((HALF, (ZERO,)),), ((), row(1))), True)
        # 1 / (1 - z) = 1 + z + z z ..
        self.assertIs(does_have(((ZERO, (ONE, ONE, ONE)),), (row(1), row(1, -1))), True)

    def test_roots_of_under(self):
        pole = (row(1), row(1, -2))
        self.assertIs(does_have(((HALF, (ONE,)),), pole), False)
        self.assertIs(does_have(((ZERO, (ONE,)), (HALF, (ZERO,))), pole), False)
        self.assertIs(does_have(((ZERO, (ONE, num(2), num(4))),), pole), True)
        self.assertIs(does_have(((HALF, (ZERO,)),), (row(0, 1), row(1, -2))), False)


class JoinedTest(unittest.TestCase):
    def test_one_pair_more(self):
        self.assertEqual(joined((), HALF, ONE), ((HALF, (ONE,)),))
        self.assertEqual(joined(data=TWO, place=num(0, Fraction(1, 2)), value=num(7, 9)),
                         TWO + ((num(0, Fraction(1, 2)), (num(7, 9),)),))
        five = SIX[:5]
        self.assertEqual(joined(five, SIX[5][0], ONE), five + ((SIX[5][0], (ONE,)),))
        self.assertIs(is_data(joined(five, HALF, ONE)), True)

    def test_alike_then_too_many(self):
        for call in (lambda: joined(TWO, HALF, QUARTER), lambda: joined(SIX, ZERO, ONE),
                     lambda: joined(THREES, HALF, ONE), lambda: joined(SIX, SIX[5][0], num(5))):
            with self.assertRaises(Alike) as caught:
                call()
            self.assertEqual(vars(caught.exception), {})
        for data in (SIX, THREES):
            with self.assertRaises(TooMany) as caught:
                joined(data, num(0, Fraction(1, 9)), ONE)
            self.assertEqual(vars(caught.exception), {})

    def test_last_alike_behind_wrong_values(self):
        for value in WRONG_NUMBERS:
            for data in (TWO, SIX):
                with self.assertRaises(InvalidNumber):
                    joined(data, ZERO, value)


class RefusalTest(unittest.TestCase):
    def test_wrong_arguments(self):
        data = ("data", indexed(InvalidData, WRONG_DATA), TWO)
        check_refusals(self, many_values, (data,))
        check_refusals(self, table_of, (data, ("bound", given(InvalidFraction, WRONG_BOUNDS), (2, 3))))
        check_refusals(self, does_have, (data, ("quotient", given(InvalidQuotient, WRONG_QUOTIENTS), (row(0, 1), row(1)))))
        check_refusals(self, joined, (data, ("place", given(InvalidPlace, WRONG_PLACES), num(0, Fraction(1, 3))),
                                      ("value", given(InvalidNumber, WRONG_NUMBERS), num(5, 6))))

    def test_left_out_the_bound_is_one(self):
        check_bound_left_out(self, table_of, TWO)

    def test_places_near_the_rim(self):
        near = Fraction(10 ** 30 - 1, 10 ** 30)
        self.assertIs(is_data(((num(near), (ONE,)),)), True)
        on_rim = rim(Fraction(7, 3))
        self.assertIs(is_data(((on_rim.number(), (ONE,)),)), False)
        self.assertIs(is_data((((on_rim * Pair(near)).number(), (ONE,)),)), True)


if __name__ == "__main__":
    unittest.main()
