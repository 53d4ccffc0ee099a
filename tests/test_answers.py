"""withinrim.answers: all answers, the one, values at places, and what goes along."""

import itertools
import random
import unittest
from fractions import Fraction

from tests.support import (
    HALF, ONE, SHAPES, WRONG_BOUNDS, WRONG_DATA, WRONG_NUMBERS, WRONG_PLACES, WRONG_QUOTIENTS, Pair,
    check_bound_left_out, check_refusals,
    cut, data_from, frac, from_roots, given, indexed, made_quotient, mirrored_data, mirrored_row_of, num, pair,
    quotient_at, reduced_fraction, reduced_number, refused, rim, rim_one, row, shape_at, some_pair, some_places,
    times_rows, told, value_of,
)
from withinrim.answers import answer, goes_along, some_answer, the_one, told_back, values_at
from withinrim.data import does_have, joined, many_values, table_of
from withinrim.errors import InvalidData, InvalidFraction, InvalidNumber, InvalidPlace, InvalidQuotient, NotNow
from withinrim.helds import is_up_to, rim_gap
from withinrim.quotients import is_quotient, quotient_degree
from withinrim.squares import rank_of
from withinrim.steps import four_rows, standing

ZERO, I = num(0), Pair(0, 1)
QUARTER = num(Fraction(1, 4))
TWO = ((ZERO, (ZERO,)), (HALF, (QUARTER,)))
EDGE = ((ZERO, (ZERO,)), (HALF, (HALF,)))
FAR = ((ZERO, (ZERO,)), (HALF, (ONE,)))
LINE, NOTHING = (row(0, 1), row(1)), ((), row(1))
FACTORS = (Pair(1), Pair(2), Pair(Fraction(3, 5), Fraction(4, 5)), Pair(Fraction(1, 2), Fraction(-1, 3)))


def one_cases(seed, shapes=SHAPES):
    """DATA with the standing "one", the bound, and the one: a rim one of fewer roots than there are VALUES."""
    source = random.Random(seed)
    for counts in shapes:
        for degree in {0, sum(counts) // 2, sum(counts) - 1}:
            factor = source.choice(FACTORS)
            quotient = rim_one(factor, some_places(source, degree))
            yield data_from(quotient, shape_at(source, counts)), told(factor.size()), quotient


def many_cases(seed, shapes=SHAPES, extra=2):
    """DATA with the standing "many", and the bound: of a rim one with more roots, or of a small row."""
    source = random.Random(seed)
    for counts in shapes:
        factor = source.choice(FACTORS)
        quotient = rim_one(factor, some_places(source, sum(counts) + source.randint(0, extra), (2, 3)))
        yield data_from(quotient, shape_at(source, counts)), told(factor.size())
        small = row(*[some_pair(source, 2, 3) * Pair(Fraction(1, 6)) for _ in range(3)], Fraction(1, 7))
        yield data_from((small, row(1)), shape_at(source, counts)), told(Fraction(source.randint(13, 40), 4))


def some_free(source, bound):
    """QUOTIENTs up to a bound: nothing, numbers, one on the edge where the bound is a square, others."""
    small = bound if bound < 1 else Fraction(1)
    found = [NOTHING, (row(small * Fraction(1, 3)), row(1)), (row(Pair(0, -small * Fraction(2, 3))), row(1)),
             made_quotient(row(small * Fraction(1, 5), I * Pair(small * Fraction(1, 3))), row(2, Pair(Fraction(1, 2), 1)))]
    for factor in FACTORS:
        if factor.size() == bound:
            found.append((row(factor * rim(Fraction(2, 3))), row(1)))
            found.append(rim_one(factor, some_places(source, 1)))
    return found


class AnswerTest(unittest.TestCase):
    def test_by_hand(self):
        self.assertEqual(answer(TWO, NOTHING), (row(0, Fraction(1, 2)), row(1)))
        self.assertEqual(answer(data=(), quotient=LINE, bound=(1, 1)), LINE)
        self.assertEqual(told_back(TWO, (row(0, Fraction(1, 2)), row(1))), NOTHING)
        self.assertIsNone(told_back(TWO, LINE))
        self.assertEqual(told_back((), LINE), LINE)
        self.assertEqual(answer(((ZERO, (ZERO,)),), LINE), (row(0, 0, 1), row(1)))
        self.assertEqual(told_back(((ZERO, (ZERO,)),), (row(0, 0, 1), row(1))), LINE)
        self.assertEqual(answer(((ZERO, (num(1),)),), NOTHING, (4, 1)), (row(1), row(1)))

    def test_there_and_back(self):
        source = random.Random(31)
        for data, bound in many_cases(32):
            seen = []
            for s in some_free(source, frac(bound)):
                self.assertIs(is_up_to(s, bound), True)
                found = answer(data, s, bound)
                self.assertIs(is_quotient(found), True)
                self.assertIs(does_have(data, found), True)
                self.assertIs(is_up_to(found, bound), True)
                self.assertEqual(told_back(data, found, bound), s)
                self.assertNotIn(found, seen)
                seen.append(found)
            self.assertEqual(standing(data, bound), "many")

    def test_the_formula(self):
        source = random.Random(33)
        for data, bound in many_cases(34, ((1, 1), (2, 1), (1, 1, 1, 1))):
            for s in some_free(source, frac(bound)):
                found = answer(data, s, bound)
                for at in some_places(source, 3):
                    a, b, c, d = [value_of(each, at) for each in four_rows(data, bound)]
                    value = quotient_at(s, at)
                    self.assertEqual(quotient_at(found, at), (a * value + b) / (c * value + d))

    def test_other_ones_are_told_back(self):
        # What has DATA and is up to the bound, whoever made it, is the answer for what is told back.
        source = random.Random(35)
        for counts in SHAPES:
            factor = source.choice(FACTORS)
            quotient = rim_one(factor, some_places(source, sum(counts) + 1, (2, 3)))
            shape, bound = shape_at(source, counts), told(factor.size())
            data = data_from(quotient, shape)
            s = told_back(data, quotient, bound)
            self.assertEqual(quotient_degree(s), 1)
            self.assertEqual(rim_gap(s, bound), ())
            self.assertEqual(answer(data, s, bound), quotient)
            more = told(factor.size() + 3)
            self.assertEqual(answer(data, told_back(data, quotient, more), more), quotient)

    def test_none_is_told_back(self):
        source = random.Random(36)
        for data, bound in many_cases(37):
            place, values = data[-1]
            other = data[:-1] + ((place, values[:-1] + ((pair(values[-1]) + Pair(Fraction(1, 10 ** 9))).number(),)),)
            wrong = some_answer(other, told(frac(bound) + 2))
            self.assertIs(does_have(data, wrong), False)
            self.assertIsNone(told_back(data, wrong, bound))
            # Far too great, with DATA: what is put to an answer is nought at all places.
            far = self.far_one(data, answer(data, NOTHING, bound))
            self.assertIs(does_have(data, far), True)
            self.assertIsNone(told_back(data, far, bound))
        # Held, but for other numbers; with a root of UNDER in the disc or on the rim; led nowhere.
        single = ((ZERO, (HALF,)),)
        for quotient in ((row(HALF, 1), row(1, -2)), (row(HALF), row(1, -1)), (row(2), row(1)), (row(HALF, HALF, 1), row(1))):
            self.assertIsNone(told_back(single, quotient))
        self.assertEqual(told_back(single, (row(HALF), row(1))), NOTHING)

    def far_one(self, data, quotient):
        roots = [pair(place) for place, values in data for _ in values]
        more = times_rows(from_roots(roots, 10 ** 4), quotient[1])
        top = [pair(each) for each in quotient[0]] + [Pair(0)] * (len(more) - len(quotient[0]))
        return cut([x + pair(y) for x, y in zip(top, more)] + top[len(more):]), quotient[1]

    def test_not_now(self):
        for data, bound in ((EDGE, (1, 1)), (FAR, (1, 1)), (FAR, (4, 1)), (((ZERO, (ONE,)),), (1, 1))):
            refused(self, NotNow, None, None, answer, data, NOTHING, bound)
            refused(self, NotNow, None, None, told_back, data, NOTHING, bound)
        for s in ((row(2), row(1)), (row(0, 1), row(1, -2)), (row(1), row(1, -1)), (row(HALF, HALF, HALF), row(1))):
            refused(self, NotNow, None, None, answer, TWO, s)
            refused(self, NotNow, None, None, answer, (), s)
            self.assertIsNone(told_back((), s))
        refused(self, NotNow, None, None, answer, TWO, (row(1), row(1)), (99, 100))
        self.assertIs(is_quotient(answer(TWO, (row(1), row(1)), (1, 1))), True)
        self.assertIs(is_quotient(answer(TWO, (row(2), row(1)), (4, 1))), True)


class TheOneTest(unittest.TestCase):
    def test_by_hand(self):
        self.assertEqual(the_one(EDGE), LINE)
        self.assertIsNone(the_one(TWO))
        self.assertIsNone(the_one(FAR))
        self.assertIsNone(the_one(()))
        self.assertEqual(the_one(data=FAR, bound=(4, 1)), (row(0, 2), row(1)))
        self.assertEqual(the_one(((HALF, (num(0, 3), ZERO)),), (9, 1)), (row(Pair(0, 3)), row(1)))
        self.assertEqual(the_one(((ZERO, (ZERO, ONE)),)), LINE)
        self.assertEqual(the_one(((ZERO, (ZERO, ZERO, num(0, 1))),)), (row(0, 0, I), row(1)))

    def test_rim_ones(self):
        for data, bound, quotient in one_cases(41):
            found = the_one(data, bound)
            self.assertEqual(found, quotient)
            self.assertEqual(rim_gap(found, bound), ())
            self.assertEqual(quotient_degree(found), rank_of(table_of(data, bound)))
            self.assertEqual(some_answer(data, bound), found)
            self.assertIs(does_have(data, found), True)

    def test_each_order_of_places(self):
        for data, bound, quotient in one_cases(42, ((1, 1, 1), (2, 1), (1, 2, 1), (1, 1, 1, 1))):
            for lot in itertools.permutations(data):
                self.assertEqual(standing(lot, bound), "one")
                self.assertEqual(the_one(lot, bound), quotient)

    def test_values_beyond_the_bound(self):
        for value in (num(1, Fraction(1, 10 ** 9)), num(2), num(0, -5)):
            for lot in itertools.permutations(TWO + ((num(0, Fraction(1, 3)), (value,)),)):
                self.assertEqual(standing(lot), "none")
                self.assertIsNone(the_one(lot))
                self.assertIsNone(some_answer(lot))
                self.assertIsNone(values_at(lot, ZERO))
                self.assertIs(goes_along(lot, ZERO, ZERO), False)
            for data in ((), TWO, EDGE, FAR):
                self.assertIs(goes_along(data, num(0, Fraction(1, 3)), value), False)


class SomeAnswerTest(unittest.TestCase):
    def check(self, data, bound):
        found = some_answer(data, bound)
        self.assertIs(found is None, standing(data, bound) == "none")
        if found is not None:
            self.assertIs(is_up_to(found, bound), True)
            self.assertIs(does_have(data, found), True)

    def test_all_standings(self):
        source = random.Random(43)
        for data, bound in many_cases(44):
            self.check(data, bound)
            self.check(data, told(Fraction(source.randint(1, 9), 20)))
        for data, bound, _ in one_cases(45):
            self.check(data, bound)
            self.check(data, told(frac(bound) * Fraction(99, 100)))
            self.check(data, told(frac(bound) * Fraction(101, 100)))
            self.assertIsNone(some_answer(data, told(frac(bound) * Fraction(99, 100))))
        self.check((), (1, 1))
        self.check((), (1, 100))
        self.assertIsNone(some_answer(data=FAR))
        self.assertIs(does_have(TWO, some_answer(TWO)), True)


class ValuesTest(unittest.TestCase):
    def test_by_hand(self):
        self.assertEqual(values_at(TWO, num(Fraction(-1, 2))), (num(Fraction(-3, 28)), (25, 196)))
        self.assertEqual(values_at((), HALF), (ZERO, (1, 1)))
        self.assertEqual(values_at(data=(), place=HALF, bound=(7, 3)), (ZERO, (7, 3)))
        self.assertEqual(values_at(TWO, HALF), (QUARTER, (0, 1)))
        self.assertEqual(values_at(EDGE, HALF), (HALF, (0, 1)))
        self.assertEqual(values_at(EDGE, QUARTER), (QUARTER, (0, 1)))
        self.assertIsNone(values_at(FAR, HALF))
        self.assertIsNone(values_at(FAR, QUARTER))
        self.assertEqual(values_at(FAR, QUARTER, (4, 1)), (HALF, (0, 1)))
        # With 0 at 0 up to 1: all of size up to that of the place.
        self.assertEqual(values_at(((ZERO, (ZERO,)),), num(Fraction(1, 2), Fraction(1, 3))), (ZERO, (13, 36)))
        self.assertEqual(values_at(((HALF, (HALF, num(9), ONE)),), HALF, (900, 1)), (HALF, (0, 1)))

    def test_answers_fill_the_disc(self):
        source = random.Random(51)
        for data, bound in many_cases(52):
            place = next(each for each in some_places(source, 20) if all(each.number() != at for at, _ in data))
            centre, square = values_at(data, place.number(), bound)
            self.assertTrue(reduced_number(centre) and reduced_fraction(square) and square[0] > 0)
            self.assertIs(goes_along(data, place.number(), centre, bound), True)
            for s in some_free(source, frac(bound)):
                value = quotient_at(answer(data, s, bound), place)
                off = (value - pair(centre)).size()
                on_edge = quotient_at(s, place).size() == frac(bound)
                self.assertIs(off == frac(square), on_edge)
                self.assertLessEqual(off, frac(square))
                self.assertIs(goes_along(data, place.number(), value.number(), bound), True)
                if many_values(data) < 6:
                    self.assertEqual(standing(joined(data, place.number(), value.number()), bound), "one" if on_edge else "many")
                if on_edge:
                    self.check_about(data, place, centre, value, bound)

    def check_about(self, data, place, centre, value, bound):
        # Along the line from the centre through a value on the edge, a little within and beyond.
        for part, along, word in ((1 - Fraction(1, 10 ** 6), True, "many"), (1 + Fraction(1, 10 ** 6), False, "none"), (-1, True, "one")):
            other = (pair(centre) + (value - pair(centre)) * Pair(part)).number()
            self.assertIs(goes_along(data, place.number(), other, bound), along)
            if many_values(data) < 6:
                self.assertEqual(standing(joined(data, place.number(), other), bound), word)

    def test_at_a_place_of_data(self):
        for data, bound in list(many_cases(53)) + [(data, bound) for data, bound, _ in one_cases(54)]:
            for place, values in data:
                self.assertEqual(values_at(data, place, bound), (values[0], (0, 1)))
                self.assertIs(goes_along(data, place, values[0], bound), True)
                other = (pair(values[0]) + Pair(0, Fraction(1, 10 ** 20))).number()
                self.assertIs(goes_along(data, place, other, bound), False)

    def test_of_the_one(self):
        source = random.Random(55)
        for data, bound, quotient in one_cases(56):
            for place in some_places(source, 3):
                value = quotient_at(quotient, place)
                self.assertEqual(values_at(data, place.number(), bound), (value.number(), (0, 1)))
                self.assertIs(goes_along(data, place.number(), value.number(), bound), True)
                self.assertIs(goes_along(data, place.number(), (value + Pair(Fraction(1, 99))).number(), bound), False)

    def test_each_order_of_places(self):
        for data, bound in many_cases(57, ((1, 1), (2, 1), (1, 1, 1), (1, 2, 1), (3, 2))):
            expected = values_at(data, num(Fraction(5, 7)), bound)
            for lot in itertools.permutations(data):
                self.assertEqual(values_at(lot, num(Fraction(5, 7)), bound), expected)

    def test_two_further_places_both_ways_round(self):
        source = random.Random(58)
        for data, bound in many_cases(59, ((1,), (1, 1), (2,), (2, 1), (1, 1, 1))):
            first, second = num(Fraction(5, 7)), num(0, Fraction(-6, 7))
            for s in some_free(source, frac(bound)):
                one, two = [quotient_at(answer(data, s, bound), pair(each)) for each in (first, second)]
                for gap in (Pair(0), Pair(Fraction(1, 50)), Pair(0, 2)):
                    moved = (two + gap).number()
                    ahead = goes_along(joined(data, first, one.number()), second, moved, bound)
                    back = (goes_along(data, second, moved, bound)
                            and goes_along(joined(data, second, moved), first, one.number(), bound))
                    self.assertIs(ahead, back)
                    self.assertTrue(ahead or gap != Pair(0))

    def test_with_more_data_the_disc_is_within(self):
        source = random.Random(60)
        for data, bound in many_cases(61, ((1, 1), (2, 1), (1, 1, 1), (1, 2, 1))):
            place = num(Fraction(5, 7))
            centre, square = values_at(data, place, bound)
            wide, wider = values_at(data[:-1], place, bound)
            for _ in range(5):
                at = rim(Fraction(source.randint(-9, 9), 4))
                off = (pair(centre) - pair(wide)).size()
                self.assertLessEqual(off, frac(wider))
                value = quotient_at(answer(data, (row(at * Pair(frac(bound) if frac(bound) < 1 else 1)), row(1)), bound), pair(place))
                self.assertLessEqual((value - pair(wide)).size(), frac(wider))
            self.assertLessEqual(frac(square), frac(wider))


class SlopesTest(unittest.TestCase):
    def circle_of(self, one, two, three):
        """The centre and the square of the radius of the circle through three Pairs."""
        two, three = two - one, three - one
        cross = (two.mirrored() * three).im
        turned = (three * Pair(two.size()) - two * Pair(three.size())) * Pair(0, 1)
        centre = turned / Pair(-2 * cross)
        return one + centre, centre.size()

    def test_further_coefficients_fill_a_disc(self):
        source = random.Random(62)
        for counts in ((1,), (2,), (1, 1), (1, 2), (2, 1), (1, 1, 1), (2, 2), (1, 1, 2)):
            factor = source.choice(FACTORS)
            shape = shape_at(source, counts)
            data = data_from(rim_one(factor, some_places(source, sum(counts) + 1, (2, 3))), shape)
            bound, (place, many) = told(factor.size()), shape[0]
            word = lambda value: standing(((data[0][0], data[0][1] + (value.number(),)),) + data[1:], bound)
            edge = [factor * rim(x) for x in (Fraction(0), Fraction(1), Fraction(-2), Fraction(3, 7))]
            next_one = lambda s: pair(data_from(answer(data, (row(s), row(1)), bound), [(place, many + 1)])[0][1][many])
            on_edge = [next_one(each) for each in edge]
            centre, square = self.circle_of(*on_edge[:3])
            self.assertEqual((on_edge[3] - centre).size(), square)
            for each in on_edge:
                self.assertEqual(word(each), "one")
                self.assertEqual(word(centre + (each - centre) * Pair(Fraction(999, 1000))), "many")
                self.assertEqual(word(centre + (each - centre) * Pair(Fraction(1001, 1000))), "none")
            self.assertEqual(word(centre), "many")
            self.assertLess((next_one(factor * Pair(Fraction(1, 7))) - centre).size(), square)
            self.assertEqual(word(next_one(factor * Pair(0, Fraction(1, 2)))), "many")


class MirroredTest(unittest.TestCase):
    def test_mirrored_data(self):
        mirrored_of = lambda quotient: (mirrored_row_of(quotient[0]), mirrored_row_of(quotient[1]))
        source = random.Random(63)
        for data, bound in many_cases(64, ((1, 1), (2, 1), (1, 1, 1))):
            other = mirrored_data(data)
            self.assertEqual(standing(other, bound), standing(data, bound))
            for s in some_free(source, frac(bound)):
                self.assertEqual(answer(other, mirrored_of(s), bound), mirrored_of(answer(data, s, bound)))
            centre, square = values_at(data, num(Fraction(1, 9), Fraction(6, 7)), bound)
            self.assertEqual(values_at(other, num(Fraction(1, 9), Fraction(-6, 7)), bound),
                             (pair(centre).mirrored().number(), square))
        for data, bound, quotient in one_cases(65):
            self.assertEqual(the_one(mirrored_data(data), bound), mirrored_of(quotient))

    def test_real_data(self):
        for roots in ((), (Fraction(1, 2),), (Fraction(1, 2), Fraction(-1, 3)), (0, 0, Fraction(2, 3))):
            quotient = rim_one(Pair(2), [Pair(each) for each in roots])
            for shape in ([(Pair(0), 3), (Pair(Fraction(1, 4)), 1)], [(Pair(Fraction(-3, 4)), 2), (Pair(Fraction(1, 5)), 2)]):
                data = data_from(quotient, shape)
                self.assertEqual(mirrored_data(data), data)
                self.assertEqual(the_one(data, (4, 1)), quotient)
                for bound in ((5, 1), (9, 2)):
                    found = answer(data, (row(0, Fraction(1, 3)), row(1)), bound)
                    self.assertEqual((mirrored_row_of(found[0]), mirrored_row_of(found[1])), found)
                    self.assertEqual(values_at(data, num(Fraction(5, 7)), bound)[0][1], (0, 1))


class SixValuesTest(unittest.TestCase):
    def test_six_values(self):
        data = tuple((num(Fraction(k, 7), Fraction(k % 3, 9)), (num(Fraction(k, 20), Fraction(1, 30)),)) for k in range(6))
        bound = (2, 1)
        while standing(data, bound) != "many":
            bound = (bound[0] * 4, 1)
        found = answer(data, (row(Fraction(1, 2)), row(1)), bound)
        self.assertIs(does_have(data, found), True)
        self.assertIs(is_up_to(found, bound), True)
        place = num(Fraction(-2, 3))
        centre, square = values_at(data, place, bound)
        self.assertLess((quotient_at(found, pair(place)) - pair(centre)).size(), frac(square))
        self.assertIs(goes_along(data, place, quotient_at(found, pair(place)).number(), bound), True)


class RefusalTest(unittest.TestCase):
    def test_wrong_arguments(self):
        data = ("data", indexed(InvalidData, WRONG_DATA), TWO)
        place = ("place", given(InvalidPlace, WRONG_PLACES), num(0, Fraction(1, 3)))
        quotient = ("quotient", given(InvalidQuotient, WRONG_QUOTIENTS), NOTHING)
        bound = ("bound", given(InvalidFraction, WRONG_BOUNDS), (2, 3))
        for call in (answer, told_back):
            check_refusals(self, call, (data, quotient, bound))
        for call in (the_one, some_answer):
            check_refusals(self, call, (data, bound))
        check_refusals(self, values_at, (data, place, bound))
        check_refusals(self, goes_along, (data, place, ("value", given(InvalidNumber, WRONG_NUMBERS), ONE), bound))

    def test_not_now_is_last(self):
        for call in (answer, told_back):
            for value in WRONG_QUOTIENTS:
                refused(self, InvalidQuotient, "given", value, call, EDGE, value)
            for value in WRONG_BOUNDS:
                refused(self, InvalidFraction, "given", value, call, EDGE, (row(9), row(1)), value)

    def test_left_out_the_bound_is_one(self):
        check_bound_left_out(self, answer, TWO, (row(num(Fraction(9, 10))), row(1)))
        found = answer(TWO, LINE)
        check_bound_left_out(self, told_back, TWO, found)
        check_bound_left_out(self, the_one, EDGE)
        self.assertEqual(some_answer(EDGE), LINE)
        self.assertIsNone(some_answer(((ZERO, (ZERO,)), (HALF, (num(Fraction(3, 5)),)))))
        check_bound_left_out(self, values_at, TWO, QUARTER)
        centre, _ = values_at(TWO, num(Fraction(-1, 2)))
        edge = (pair(centre) + Pair(0, Fraction(5, 14))).number()
        for value, other in ((edge, False), ((pair(edge) + Pair(0, Fraction(1, 100))).number(), True)):
            self.assertIs(goes_along(TWO, num(Fraction(-1, 2)), value), not other)
            self.assertIs(goes_along(TWO, num(Fraction(-1, 2)), value, (2, 1) if other else (99, 100)), other)
        self.assertIs(goes_along(TWO, QUARTER, num(2)), False)
        self.assertIs(goes_along(TWO, QUARTER, num(2), (4000, 1)), True)


if __name__ == "__main__":
    unittest.main()
