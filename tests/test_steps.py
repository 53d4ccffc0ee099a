"""withinrim.steps: one step, knots, standing, step tables and the four rows."""

import itertools
import random
import unittest
from fractions import Fraction

from tests.support import (
    HALF, ONE, SHAPES, WRONG_BOUNDS, WRONG_DATA, WRONG_NUMBERS, WRONG_PLACES, Pair, check_bound_left_out, check_refusals,
    cut, data_from,
    frac, given, indexed, num, out_of, pair, rank_of_rows, refused, rim, rim_one, row, shape_at, some_pair, some_places,
    times_rows, told, value_of,
)
from withinrim.data import is_data, many_values, table_of
from withinrim.errors import InvalidData, InvalidFraction, InvalidNumber, InvalidPlace, NotNow
from withinrim.squares import mix_below, rank_of, squares_of
from withinrim.steps import four_rows, knots, standing, step, step_table
from withinrim.tables import cleared_table

ZERO, I = num(0), Pair(0, 1)
QUARTER = num(Fraction(1, 4))
TWO = ((ZERO, (ZERO,)), (HALF, (QUARTER,)))
EDGE = ((ZERO, (ZERO,)), (HALF, (HALF,)))
FAR = ((ZERO, (ZERO,)), (HALF, (ONE,)))
FACTORS = (Pair(1), Pair(2), Pair(Fraction(3, 5), Fraction(4, 5)), Pair(Fraction(1, 2), Fraction(-1, 3)), Pair(0, 7))


def rim_cases(seed, shapes=SHAPES):
    """DATA of a rim one with so many roots, with this one's bound and how many roots it has."""
    source = random.Random(seed)
    for counts in shapes:
        for degree in range(0, 5):
            factor = source.choice(FACTORS)
            quotient = rim_one(factor, some_places(source, degree))
            yield data_from(quotient, shape_at(source, counts)), told(factor.size()), degree, quotient


def held_cases(seed):
    """DATA of small rows with the bound 1: the standing is "many"."""
    source = random.Random(seed)
    for counts in SHAPES:
        small = tuple((some_pair(source, 2, 3) * Pair(Fraction(1, 20))).number() for _ in range(4)) + (num(Fraction(1, 9)),)
        yield data_from((small, row(1)), shape_at(source, counts))


class StandingTest(unittest.TestCase):
    def test_by_hand(self):
        self.assertEqual([standing(TWO), standing(EDGE), standing(FAR), standing(FAR, (4, 1))],
                         ["many", "one", "none", "one"])
        self.assertEqual([standing(()), standing(data=(), bound=(1, 9))], ["many", "many"])

    def test_one_value_alone(self):
        for value, bound, word in (
                (num(0), (1, 1), "many"), (ONE, (1, 1), "one"), (num(0, -1), (1, 1), "one"), (num(2), (4, 1), "one"),
                (num(2), (5, 1), "many"), (num(2), (1, 1), "none"), (num(1, 1), (2, 1), "one"), (num(1, 1), (1, 1), "none"),
                (num(Fraction(3, 5), Fraction(4, 5)), (1, 1), "one"), (num(1, 1), (200001, 100000), "many"),
                (num(1, 1), (199999, 100000), "none")):
            for place in (ZERO, HALF, num(Fraction(1, 3), Fraction(-2, 3))):
                self.assertEqual(standing(((place, (value,)),), bound), word)

    def test_values_of_just_the_bounds_size(self):
        u = num(Fraction(3, 5), Fraction(4, 5))
        for data, word in (
                (((ZERO, (u,)), (HALF, (u,))), "one"), (((ZERO, (u, ZERO)), (HALF, (u, ZERO, ZERO))), "one"),
                (((ZERO, (u,)), (HALF, (ONE,))), "none"), (((ZERO, (u, ONE)),), "none"), (((ZERO, (u, ZERO, ONE)),), "none"),
                (((ZERO, (u,)), (HALF, (ZERO,))), "none"), (((ZERO, (ZERO,)), (HALF, (u,))), "none"),
                (((HALF, (u,)), (ZERO, (u, QUARTER))), "none"), (((ZERO, (num(2),)), (HALF, (u,))), "none"),
                (((ZERO, (ZERO, ONE)),), "one"), (((ZERO, (ZERO, u, ZERO)),), "one"), (((ZERO, (ZERO, u, HALF)),), "none"),
                (((ZERO, (HALF, num(Fraction(3, 4)))),), "one"), (((ZERO, (HALF, num(Fraction(3, 4), Fraction(1, 9)))),), "none"),
                (((ZERO, (HALF, num(0, Fraction(1, 2)))),), "many")):
            self.assertEqual(standing(data), word, data)

    def test_rim_ones(self):
        # A rim one of degree m is the only one with its DATA exactly if there are more than m VALUES.
        for data, bound, degree, _ in rim_cases(11):
            many = many_values(data)
            self.assertEqual(standing(data, bound), "one" if many > degree else "many")
            if many > degree:
                below = told(frac(bound) * Fraction(10 ** 12 - 1, 10 ** 12))
                self.assertEqual(standing(data, below), "none")
            self.assertEqual(standing(data, told(frac(bound) * Fraction(10 ** 12 + 1, 10 ** 12))), "many")

    def test_held_ones(self):
        for data in held_cases(12):
            self.assertEqual(standing(data), "many")

    def test_the_table_decides(self):
        source = random.Random(13)
        words = []
        cases = [(data, bound) for data, bound, _, _ in rim_cases(14)]
        for counts in SHAPES * 4:
            data = tuple((place.number(), tuple((some_pair(source) * Pair(Fraction(1, 8))).number() for _ in range(many)))
                         for place, many in shape_at(source, counts))
            cases.append((data, (source.randint(1, 9), 1)))
        for data, bound in cases:
            table, word = table_of(data, bound), standing(data, bound)
            words.append(word)
            mix = mix_below(table)
            self.assertIs(mix is not None, word == "none")
            if word == "none":
                self.assertLess(out_of(table, mix).re, 0)
            else:
                self.assertIsNotNone(squares_of(table))
                self.assertIs(rank_of(table) < len(table), word == "one")
                self.assertIs(rank_of_rows(table) == len(table), word == "many")
        self.assertGreater(min(words.count(each) for each in ("many", "one", "none")), 15)

    def test_each_order_of_places(self):
        for data, bound, _, _ in rim_cases(15, ((1, 1, 1), (2, 1), (1, 2, 1), (3, 1, 1), (2, 1, 2, 1))):
            more = data[:-1] + ((data[-1][0], data[-1][1][:-1] + (num(1, 1),)),)
            for lot in (data, more):
                orders = list(itertools.permutations(lot))
                self.assertEqual(len({standing(each, bound) for each in orders}), 1)
                self.assertEqual(len({rank_of(table_of(each, bound)) for each in orders}), 1)


class StepTest(unittest.TestCase):
    def test_by_hand(self):
        self.assertEqual(step(TWO), ((HALF, (HALF,)),))
        self.assertEqual(step(data=((HALF, (HALF,)),)), ())
        # f = h / 2 + h h at 0 leaves 1 / 2 + h.
        self.assertEqual(step(((ZERO, (ZERO, HALF, ONE)),)), ((ZERO, (HALF, ONE)),))
        self.assertEqual(step(FAR, (4, 1)), ((HALF, (num(2),)),))

    def test_the_series_itself(self):
        # g of the step, as a quotient of the tests' own, has the stepped DATA.
        source = random.Random(16)
        for counts in SHAPES:
            small = tuple((some_pair(source, 2, 3) * Pair(Fraction(1, 9))).number() for _ in range(3)) + (num(Fraction(1, 9)),)
            shape, bound = shape_at(source, counts), Fraction(source.randint(3, 9), 2)
            data = data_from((small, row(1)), shape)
            z1, w = shape[0][0], pair(data[0][1][0])
            drawn = w.mirrored() / Pair(bound)
            above = cut([pair(small[0]) - w] + [pair(each) for each in small[1:]])
            below = cut([Pair(1) - drawn * pair(small[0])] + [Pair(0) - drawn * pair(each) for each in small[1:]])
            above = times_rows(above, row(1, Pair(0) - z1.mirrored()))
            self.assertEqual(value_of(above, z1), Pair(0))
            quotient = (self.without_root(above, z1), below)
            expected = data_from(quotient, [(z1, counts[0] - 1)] * (counts[0] > 1) + shape[1:])
            self.assertEqual(step(data, told(bound)), expected)
            self.assertTrue(is_data(expected))

    def without_root(self, some, root):
        found, ahead = [], Pair(0)
        for each in reversed(some[1:]):
            ahead = pair(each) + ahead * root
            found.append(ahead)
        return cut(found[::-1])

    def test_what_clearing_leaves(self):
        # Row by row, on both sides, by one factor each: all sizes of the elements with one VALUE at each place.
        source = random.Random(17)
        for many in range(2, 7):
            data = data_from((row(Fraction(1, 3), Fraction(1, 4), Fraction(1, 5)), row(1)), shape_at(source, (1,) * many))
            left, rest = table_of(step(data)), cleared_table(table_of(data))
            for i in range(many - 1):
                for j in range(many - 1):
                    one = pair(left[i][j]) * pair(left[j][i]) * pair(rest[i][i]) * pair(rest[j][j])
                    two = pair(rest[i][j]) * pair(rest[j][i]) * pair(left[i][i]) * pair(left[j][j])
                    self.assertEqual(one, two)
            self.assertEqual(rank_of(table_of(data)), 1 + rank_of(left))
        for data, bound, _, _ in rim_cases(18):
            if standing(data, bound) != "none" and frac(bound) > pair(data[0][1][0]).size():
                self.assertEqual(rank_of(table_of(data, bound)), 1 + rank_of(table_of(step(data, bound), bound)))

    def test_places_stay_in_order(self):
        data = ((HALF, (ZERO, QUARTER)), (ZERO, (QUARTER,)), (num(0, Fraction(1, 2)), (ZERO,) * 3))
        self.assertEqual([(place, len(values)) for place, values in step(data)],
                         [(HALF, 1), (ZERO, 1), (num(0, Fraction(1, 2)), 3)])
        self.assertEqual([place for place, _ in step(step(data))], [ZERO, num(0, Fraction(1, 2))])

    def test_not_now(self):
        for data, bound in (((), (1, 1)), (((ZERO, (ONE,)),), (1, 1)), (EDGE, (1, 4)), (FAR, (1, 1)),
                            (((ZERO, (ZERO, num(9))), (HALF, (num(0, 1),))), (1, 1)), (((ZERO, (num(2),)),), (3, 1))):
            refused(self, NotNow, None, None, step, data, bound)
        self.assertEqual(step(((ZERO, (ZERO, num(9))), (HALF, (num(0, 1),))), (2, 1))[0], (ZERO, (num(9),)))


class KnotsTest(unittest.TestCase):
    def test_by_hand(self):
        self.assertEqual(knots(TWO), ((ZERO, ZERO), (HALF, HALF)))
        self.assertEqual(knots(data=EDGE), ((ZERO, ZERO),))
        self.assertEqual(knots(FAR), ())
        self.assertEqual(knots(()), ())
        self.assertEqual(knots(((ZERO, (HALF,)),), (1, 4)), ())
        self.assertEqual(knots(FAR, bound=(5, 1)), ((ZERO, ZERO), (HALF, num(2))))
        self.assertEqual(knots(((ZERO, (ZERO, HALF)),)), ((ZERO, ZERO), (ZERO, HALF)))

    def test_they_are_those_of_the_steps(self):
        cases = [(data, bound) for data, bound, _, _ in rim_cases(19)] + [(data, (1, 1)) for data in held_cases(20)]
        for data, bound in cases:
            found, left = [], data
            while left and all(pair(values[0]).size() < frac(bound) for _, values in left):
                found.append((left[0][0], left[0][1][0]))
                left = step(left, bound)
            self.assertEqual(knots(data, bound), tuple(found))
            self.assertIs(standing(data, bound) == "many", left == ())
            if standing(data, bound) == "many":
                self.assertEqual(len(found), many_values(data))
                self.assertEqual([place for place, _ in found], [place for place, values in data for _ in values])
            if standing(data, bound) == "one":
                self.assertEqual(len(found), rank_of(table_of(data, bound)))


class RowsTest(unittest.TestCase):
    def test_step_tables(self):
        self.assertEqual(step_table(ZERO, ZERO), ((row(0, 1), ()), ((), row(1))))
        self.assertEqual(step_table(HALF, ZERO), ((row(Fraction(-1, 2), 1), ()), ((), row(1, Fraction(-1, 2)))))
        self.assertEqual(step_table(ZERO, HALF), ((row(0, 1), row(Fraction(1, 2))), (row(0, Fraction(1, 2)), row(1))))
        i_half = num(0, Fraction(1, 2))
        self.assertEqual(step_table(place=i_half, value=num(0, 1), bound=(2, 1)), (
            (row(Pair(0, Fraction(-1, 2)), 1), row(I, Fraction(-1, 2))),
            (row(Fraction(-1, 4), Pair(0, Fraction(-1, 2))), row(1, Pair(0, Fraction(1, 2))))))

    def test_step_tables_tell_f_by_g(self):
        source = random.Random(21)
        for _ in range(20):
            (z1, z), w = some_places(source, 2), some_pair(source, 2, 3)
            bound = w.size() + Fraction(source.randint(1, 9), 3)
            (a, b), (c, d) = step_table(z1.number(), w.number(), told(bound))
            g = some_pair(source, 1, 4)
            ratio = (z - z1) / (Pair(1) - z1.mirrored() * z)
            f = (ratio * g + w) / (Pair(1) + w.mirrored() * ratio * g / Pair(bound))
            a, b, c, d = [value_of(each, z) for each in (a, b, c, d)]
            self.assertEqual((a * g + b) / (c * g + d), f)
            self.assertEqual(d, Pair(1) - z1.mirrored() * z)

    def test_step_table_not_now(self):
        for value, bound in ((ONE, (1, 1)), (num(0, 1), (1, 1)), (num(2), (3, 1)), (num(2), (4, 1)), (HALF, (1, 9))):
            refused(self, NotNow, None, None, step_table, HALF, value, bound)
        self.assertEqual(step_table(ZERO, num(2), (5, 1))[1][0], row(0, Fraction(2, 5)))

    def test_four_rows_by_hand(self):
        self.assertEqual(four_rows(()), (row(1), (), (), row(1)))
        self.assertEqual(four_rows(TWO), (
            row(0, Fraction(-1, 2), 1), row(0, Fraction(1, 2), Fraction(-1, 4)), row(Fraction(-1, 4), Fraction(1, 2)),
            row(1, Fraction(-1, 2))))
        self.assertIsNone(four_rows(EDGE))
        self.assertIsNone(four_rows(data=FAR))
        self.assertIsNone(four_rows(FAR, (4, 1)))
        self.assertIsNotNone(four_rows(FAR, bound=(5, 1)))

    def test_four_rows_are_the_product_in_order(self):
        cases = [(data, bound) for data, bound, _, _ in rim_cases(22)] + [(data, (1, 1)) for data in held_cases(23)]
        for data, bound in cases:
            rows = four_rows(data, bound)
            self.assertIs(rows is None, standing(data, bound) != "many")
            if rows is None:
                continue
            for z in (Pair(0), Pair(2, 1), Pair(Fraction(1, 3), Fraction(-2, 7))):
                total = (Pair(1), Pair(0), Pair(0), Pair(1))
                for place, value in knots(data, bound):
                    e, f, g, h = [value_of(each, z) for line in step_table(place, value, bound) for each in line]
                    a, b, c, d = total
                    total = (a * e + b * g, a * f + b * h, c * e + d * g, c * f + d * h)
                self.assertEqual(tuple(value_of(each, z) for each in rows), total)


class RefusalTest(unittest.TestCase):
    def test_wrong_arguments(self):
        data = ("data", indexed(InvalidData, WRONG_DATA), TWO)
        bound = ("bound", given(InvalidFraction, WRONG_BOUNDS), (2, 3))
        for call in (step, knots, standing, four_rows):
            check_refusals(self, call, (data, bound))
        check_refusals(self, step_table, (("place", given(InvalidPlace, WRONG_PLACES), HALF),
                                          ("value", given(InvalidNumber, WRONG_NUMBERS), QUARTER), bound))

    def test_not_now_is_last(self):
        for bound in WRONG_BOUNDS:
            refused(self, InvalidFraction, "given", bound, step, (), bound)
            refused(self, InvalidFraction, "given", bound, step_table, HALF, num(9), bound)

    def test_left_out_the_bound_is_one(self):
        wide = ((HALF, (num(Fraction(9, 10)), num(Fraction(1, 10)))), (ZERO, (num(Fraction(4, 5)),)))
        for call in (step, knots, four_rows):
            check_bound_left_out(self, call, wide)
        check_bound_left_out(self, standing, EDGE)
        check_bound_left_out(self, step_table, HALF, num(Fraction(9, 10)))

    def test_rim_values(self):
        for x in (Fraction(0), Fraction(1, 2), Fraction(-3), Fraction(7, 5)):
            u = rim(x).number()
            self.assertEqual(standing(((HALF, (u, ZERO)), (ZERO, (u,)))), "one")
            refused(self, NotNow, None, None, step, ((HALF, (u, ZERO)),))


if __name__ == "__main__":
    unittest.main()
