"""withinrim.rims: rim ones, what they take and how often, goings round, and rim ones at one another's values."""

import random
import unittest
from fractions import Fraction

from tests.support import (
    BOOLS, HALF, ONE, SHAPES, STRANGE, WRONG_BOUNDS, WRONG_FACTORS, WRONG_NUMBERS, WRONG_PLACES, WRONG_QUOTIENTS,
    WRONG_ROWS, Pair, check_bound_left_out, check_refusals, cut, data_from, frac, from_roots, given, indexed, made_quotient, num, pair,
    quotient_at, refused, rim, rim_one, row, shape_at, some_pair, some_places, times_rows, told, value_of,
)
from withinrim.answers import answer, told_back
from withinrim.errors import (
    InvalidFraction, InvalidNumber, InvalidPlaces, InvalidQuotient, InvalidRow, NotNow, TooMany,
)
from withinrim.helds import is_up_to, rim_gap
from withinrim.quotients import is_quotient, quotient_degree, quotient_product
from withinrim.realrows import real_roots
from withinrim.rims import bound_of, is_rim_one, rim_of, rim_of_places, rounds, taken, taken_at
from withinrim.rootcounts import rim_rows
from withinrim.rows import row_common, row_from
from withinrim.steps import standing
from withinrim.turns import turn_quotient

ZERO, I, LESS, DOUBLE = num(0), num(0, 1), num(Fraction(-1, 2)), num(2)
SHIFT = (ONE, HALF)
SQUARE, SLOW = (row(0, 0, 1), row(1)), (row(0, Fraction(1, 2)), row(1))
FACTORS = (Pair(1), Pair(2), Pair(0, -3), Pair(Fraction(3, 5), Fraction(4, 5)), Pair(Fraction(1, 2), Fraction(-1, 3)), Pair(10 ** 20))


def rim_cases(seed, most=8):
    """Rim ones with their factor and their roots, some of them told twice."""
    source = random.Random(seed)
    for degree in range(most + 1):
        for _ in range(2):
            roots = some_places(source, degree, (2, 3, 4))
            if degree > 1 and source.randint(0, 1):
                roots[1] = roots[0]
            factor = source.choice(FACTORS)
            yield rim_one(factor, roots), factor, roots


def led_quotient(quotient, turn, bound):
    """UNIT (q - CENTRE) / (1 - CENTRE' q / bound), by the tests' own arithmetic, not reduced but for the first number."""
    unit, centre = pair(turn[0]), pair(turn[1])
    top, under = [list(map(pair, each)) for each in quotient]
    longest = max(len(top), len(under))
    top, under = top + [Pair(0)] * (longest - len(top)), under + [Pair(0)] * (longest - len(under))
    drawn = centre.mirrored() / Pair(bound)
    return made_quotient(cut(unit * (x - centre * y) for x, y in zip(top, under)), cut(y - drawn * x for x, y in zip(top, under)))


class RimOneTest(unittest.TestCase):
    def test_by_hand(self):
        self.assertEqual([is_rim_one(turn_quotient(SHIFT)), is_rim_one(SLOW), is_rim_one(SLOW, (1, 4))], [True, False, True])
        self.assertEqual([bound_of(SLOW), bound_of(rim=SQUARE)], [(1, 4), (1, 1)])
        self.assertIs(is_rim_one(value=(row(3), row(1)), bound=(9, 1)), True)
        self.assertIs(is_rim_one((row(Pair(1, 1)), row(1)), (2, 1)), True)
        self.assertIs(is_rim_one(((), row(1))), False)

    def test_the_bound_is_the_size_of_the_number(self):
        for quotient, factor, roots in rim_cases(101):
            bound = told(factor.size())
            self.assertIs(is_rim_one(quotient, bound), True)
            self.assertEqual(bound_of(quotient), bound)
            self.assertIs(is_rim_one(quotient, told(factor.size() + 1)), False)
            self.assertIs(is_rim_one(quotient, told(factor.size() / 2)), False)
            self.assertIs(is_up_to(quotient, bound), True)
            self.assertEqual(rim_gap(quotient, bound), ())
            self.assertEqual(quotient_degree(quotient), len(roots))

    def test_none_are(self):
        half = Fraction(1, 2)
        for quotient in (
                (row(0, 1, 1), row(1)), (row(1, 2), row(1)), (row(1), row(1, -half)), (row(0, 1), row(1, -half)),
                (row(-half, 1), row(1, half)), (row(half, 1), row(1, -half)), ((), row(1)), (row(1, -half), row(1, half)),
                # Of one size all along the rim, but with the root of UNDER in the disc.
                (row(1, -half), row(1, -2)), (row(1, -2), row(1, half)), (row(-2, 1), row(1, -2)), (row(half, -half * half, 1), row(1))):
            for bound in ((1, 1), (4, 1), (1, 4)):
                self.assertIs(is_rim_one(quotient, bound), False, quotient)
        self.assertEqual(rim_gap((row(-2, 1), row(1, -2))), ())
        # Twice as often, or not mirrored.
        root = Pair(Fraction(1, 3), half)
        top = times_rows(row(Pair(0) - root, 1), row(Pair(0) - root, 1))
        self.assertIs(is_rim_one((top, row(1, Pair(0) - root.mirrored()))), False)
        self.assertIs(is_rim_one((row(Pair(0) - root, 1), row(1, Pair(0) - root))), False)
        self.assertIs(is_rim_one((row(Pair(0) - root, 1), row(1, Pair(0) - root.mirrored()))), True)
        # Below its bound nowhere, but above it within the rim.
        self.assertIs(is_rim_one(made_quotient(row(1), row(1, 0, -4))), False)

    def test_whatever_is_passed(self):
        for value in STRANGE + BOOLS + WRONG_QUOTIENTS:
            self.assertIs(is_rim_one(value), False)
            self.assertIs(is_rim_one((row(0, 1), value)), False)
            self.assertIs(is_rim_one((value, row(1))), False)
        for bound in WRONG_BOUNDS:
            for value in (SQUARE, None, 5):
                refused(self, InvalidFraction, "given", bound, is_rim_one, value, bound)
                refused(self, InvalidFraction, "given", bound, is_rim_one, bound=bound, value=value)

    def test_led_by_a_turn(self):
        source = random.Random(102)
        for quotient, factor, roots in rim_cases(103, 6):
            bound = factor.size()
            turn = (rim(Fraction(source.randint(-5, 5), 3)).number(), (factor * some_places(source, 1)[0]).number())
            if not roots:
                continue
            found = led_quotient(quotient, turn, bound)
            self.assertIs(is_quotient(found), True)
            self.assertIs(is_rim_one(found, told(bound)), True)
            self.assertEqual(quotient_degree(found), len(roots))

    def test_products(self):
        source = random.Random(104)
        cases = list(rim_cases(105, 5))
        for one, factor, roots in cases:
            other, times, more = source.choice(cases)
            found = quotient_product(one, other)
            self.assertEqual(quotient_degree(found), len(roots) + len(more))
            self.assertEqual(bound_of(found), told((factor * times).size()))
            self.assertEqual(found, rim_one(factor * times, roots + more))


class MakingTest(unittest.TestCase):
    def test_by_hand(self):
        self.assertEqual(rim_of(DOUBLE, row(0, Fraction(-1, 2), 1)), (row(0, -1, 2), row(1, Fraction(-1, 2))))
        self.assertEqual(rim_of_places(I, (ZERO, HALF)), rim_of(I, row(0, Fraction(-1, 2), 1)))
        self.assertEqual(rim_of(number=I, row=row(5)), (row(Pair(0, 1)), row(1)))
        self.assertEqual(rim_of_places(number=I, places=()), (row(Pair(0, 1)), row(1)))
        self.assertEqual(rim_of(ONE, row(0, Pair(0, 9))), (row(0, 1), row(1)))
        self.assertEqual(rim_of_places(ONE, (I[:1] + ((1, 2),),)), (row(Pair(0, Fraction(-1, 2)), 1), row(1, Pair(0, Fraction(1, 2)))))

    def test_any_last_number(self):
        source = random.Random(106)
        for quotient, factor, roots in rim_cases(107):
            for last in (Pair(1), Pair(-7, Fraction(1, 3)), some_pair(source) + Pair(Fraction(1, 1000), 0)):
                found = rim_of(factor.number(), from_roots(roots, last))
                self.assertEqual(found, quotient)
            self.assertIs(is_quotient(found), True)

    def test_in_any_order_and_told_twice(self):
        source = random.Random(108)
        for many in range(7):
            places = some_places(source, many, (2, 3, 4))
            if many > 2:
                places[2] = places[0]
            orders = [places, places[::-1], sorted(places, key=lambda each: (each.im, each.re))]
            made = [rim_of_places(num(0, -2), tuple(each.number() for each in order)) for order in orders]
            self.assertEqual(made, [rim_one(Pair(0, -2), places)] * 3)
        self.assertEqual(rim_of_places(ONE, (HALF,) * 6), rim_of(ONE, from_roots([Fraction(1, 2)] * 6)))

    def test_degree_twelve(self):
        source = random.Random(109)
        twelve = some_places(source, 12, (2, 3, 4, 5))
        self.assertEqual(rim_of(num(1, 1), from_roots(twelve, 3)), rim_one(Pair(1, 1), twelve))
        self.assertEqual(rim_of(ONE, (ZERO,) * 12 + (I,)), ((ZERO,) * 12 + (ONE,), row(1)))
        for some in ((ZERO,) * 13 + (ONE,), from_roots(twelve + [Pair(0)]), (ZERO,) * 40 + (ONE,)):
            refused(self, InvalidRow, "given", some, rim_of, ONE, some)

    def test_roots_that_are_not_in_the_disc(self):
        for roots in ([1], [2], [0, 1], [Fraction(1, 2), -1], [Pair(0, 1)], [rim(Fraction(3, 7)), 0], [Fraction(1, 2)] * 5 + [Fraction(10 ** 20 + 1, 10 ** 20)]):
            refused(self, InvalidRow, "given", from_roots(roots), rim_of, ONE, from_roots(roots))
        self.assertIs(is_rim_one(rim_of(ONE, from_roots([Fraction(10 ** 20 - 1, 10 ** 20)]))), True)
        # Roots that are no NUMBERs: z z - 1 / 2 and z z - 2.
        self.assertEqual(rim_of(ONE, row(Fraction(-1, 2), 0, 1)), (row(Fraction(-1, 2), 0, 1), row(1, 0, Fraction(-1, 2))))
        refused(self, InvalidRow, "given", row(-2, 0, 1), rim_of, ONE, row(-2, 0, 1))


def top_less(quotient, c):
    """TOP - c UNDER as a ROW."""
    top, under = quotient
    longest = max(len(top), len(under))
    pad = [[pair(each) for each in some] + [Pair(0)] * (longest - len(some)) for some in (top, under)]
    return cut(x - c * y for x, y in zip(*pad))


class TakenTest(unittest.TestCase):
    def test_by_hand(self):
        self.assertEqual([taken(SQUARE, HALF), taken(SQUARE, ONE), taken(rim=SQUARE, number=DOUBLE)], [(2, 0, 0), (0, 2, 0), (0, 0, 2)])
        self.assertEqual(taken(SQUARE, ZERO), (2, 0, 0))
        self.assertEqual(taken(turn_quotient(SHIFT), num(9)), (0, 0, 1))

    def test_far_out(self):
        # (z - 1 / 2) / (1 - z / 2) comes near to -2 far out.
        self.assertEqual(taken(turn_quotient(SHIFT), num(-2)), (0, 0, 0))
        for quotient, factor, roots in rim_cases(111, 6):
            if roots and all(root != Pair(0) for root in roots) and roots:
                last = pair(quotient[0][-1]) / pair(quotient[1][-1])
                within, on_rim, beyond = taken(quotient, last.number())
                self.assertEqual((within, on_rim), (0, 0))
                self.assertEqual(beyond, len(top_less(quotient, last)) - 1)
                self.assertLess(beyond, len(roots))

    def test_in_the_disc_on_the_rim_beyond(self):
        source = random.Random(112)
        for quotient, factor, roots in rim_cases(113, 7):
            many = len(roots)
            if not many:
                continue
            for z in some_places(source, 2) + [Pair(0)]:
                self.assertEqual(taken(quotient, quotient_at(quotient, z).number()), (many, 0, 0))
                self.assertEqual(taken(quotient, (factor * z).number()), (many, 0, 0))
            for x in (Fraction(0), Fraction(-2, 3), Fraction(5)):
                for value in (factor * rim(x), quotient_at(quotient, rim(x))):
                    self.assertEqual(taken(quotient, value.number()), (0, many, 0))
                    p, q = rim_rows(top_less(quotient, value))
                    # All at unlike places.
                    common = row_common(row_from(tuple((each, (0, 1)) for each in p)), row_from(tuple((each, (0, 1)) for each in q)))
                    unlike = sum(real_roots(tuple(each[0] for each in common))[:1])
                    at_less = 1 if value_of(top_less(quotient, value), Pair(-1)) == Pair(0) else 0
                    self.assertEqual(unlike, many - at_less)
            beyond = Pair(0, Fraction(7, 2))
            if value_of(quotient[1], beyond) != Pair(0):
                within, on_rim, outside = taken(quotient, quotient_at(quotient, beyond).number())
                self.assertEqual((within, on_rim), (0, 0))
                self.assertTrue(1 <= outside <= many)

    def test_degree_nought(self):
        for value in (ONE, ZERO, num(3)):
            refused(self, NotNow, None, None, taken, (row(3), row(1)), value)
            refused(self, NotNow, None, None, taken, (row(Pair(0, 1)), row(1)), value)


class RoundsTest(unittest.TestCase):
    def test_by_hand(self):
        self.assertEqual([rounds(SLOW), rounds((row(Fraction(1, 2)), row(1))), rounds(quotient=SQUARE)], [1, 0, 2])
        self.assertEqual(rounds((row(-2, 1), row(1, Fraction(1, 2)))), 0)
        self.assertEqual(rounds((times_rows(row(-2, 1), row(Fraction(-1, 2), 1)), row(1, Fraction(1, 3)))), 1)

    def test_roots_of_top(self):
        source = random.Random(114)
        for many in range(5):
            inside = some_places(source, many)
            outside = [Pair(1) / each for each in some_places(source, 3) if each != Pair(0)]
            quotient = made_quotient(from_roots(inside + outside, Pair(2, 1)), row(5, Pair(0, 1), 2))
            self.assertEqual(rounds(quotient), many)
        for quotient, _, roots in rim_cases(115):
            self.assertEqual(rounds(quotient), len(roots))

    def test_not_now(self):
        for quotient in ((row(1), row(1, -2)), (row(1), row(1, -1)), (row(0, 1), row(1, 0, 1)), (row(-1, 1), row(1)), (row(0, 1, Pair(0, 1)), row(1)),
                         ((), row(1)), (row(Fraction(1, 2), 1), row(1, 0, -9)), (from_roots([rim(Fraction(1, 3))]), row(1, Fraction(1, 9)))):
            refused(self, NotNow, None, None, rounds, quotient)


class TakenAtTest(unittest.TestCase):
    def test_by_hand(self):
        self.assertEqual(taken_at(SQUARE, SQUARE), (row(0, 0, 0, 0, 1), row(1)))
        self.assertEqual(taken_at(rim=SQUARE, other=turn_quotient(SHIFT)), rim_one(Pair(1), [Pair(Fraction(1, 2))] * 2))
        self.assertEqual(taken_at(turn_quotient(SHIFT), turn_quotient((ONE, LESS))), (row(0, 1), row(1)))
        self.assertEqual(taken_at((row(Pair(0, 1)), row(1)), SQUARE), (row(Pair(0, 1)), row(1)))
        self.assertEqual(taken_at(SQUARE, (row(Pair(0, 1)), row(1))), (row(-1), row(1)))

    def test_degrees_are_multiplied(self):
        source = random.Random(116)
        for n, m in ((0, 0), (0, 3), (3, 0), (1, 1), (1, 4), (2, 2), (3, 2), (2, 3), (4, 3), (6, 2), (1, 12), (12, 1), (0, 12)):
            one = rim_one(rim(Fraction(source.randint(-5, 5), 2)), some_places(source, n, (2, 3, 4)))
            two = rim_one(rim(Fraction(source.randint(-5, 5), 3)), some_places(source, m, (2, 3, 4)))
            found = taken_at(one, two)
            self.assertIs(is_rim_one(found), True)
            self.assertEqual(quotient_degree(found), n * m)
            for z in some_places(source, 3) + [rim(Fraction(2, 5))]:
                self.assertEqual(quotient_at(found, z), quotient_at(one, quotient_at(two, z)))
            if n * m:
                self.assertEqual(taken(found, HALF), (n * m, 0, 0))

    def test_not_now_then_too_many(self):
        seven = rim_one(Pair(1), [Pair(0)] * 7)
        for one, two in ((SLOW, SQUARE), (SQUARE, SLOW), (SLOW, SLOW), (SLOW, seven), (rim_one(Pair(2), [Pair(0)] * 7), seven), ((row(2), row(1)), SQUARE)):
            refused(self, NotNow, None, None, taken_at, one, two)
        thirteen = rim_one(Pair(1), [Pair(0)] * 13)
        for one, two in ((seven, SQUARE), (SQUARE, seven), (thirteen, (row(0, 1), row(1))), (turn_quotient(SHIFT), thirteen)):
            refused(self, TooMany, None, None, taken_at, one, two)
        self.assertEqual(taken_at(thirteen, (row(1), row(1))), (row(1), row(1)))


class AnswersTest(unittest.TestCase):
    def test_the_answer_is_one_exactly_if_the_quotient_is(self):
        source = random.Random(117)
        for counts in SHAPES[:14]:
            factor = source.choice(FACTORS[:5])
            roots = some_places(source, sum(counts) + 1, (2, 3))
            data = data_from(rim_one(factor, roots), shape_at(source, counts))
            bound = told(factor.size())
            self.assertEqual(standing(data, bound), "many")
            for degree in range(3):
                s = rim_one(factor * rim(Fraction(degree - 1, 2)), some_places(source, degree))
                found = answer(data, s, bound)
                self.assertIs(is_rim_one(found, bound), True)
                self.assertEqual(quotient_degree(found), sum(counts) + degree)
                less = made_quotient(tuple((pair(each) * Pair(Fraction(9, 10))).number() for each in s[0]), s[1])
                self.assertIs(is_rim_one(answer(data, less, bound), bound), False)
            self.assertIs(is_rim_one(answer(data, ((), row(1)), bound), bound), False)
            self.assertIs(is_rim_one(told_back(data, rim_one(factor, roots), bound), bound), True)
            self.assertEqual(quotient_degree(told_back(data, rim_one(factor, roots), bound)), 1)


NO_RIMS = (
    ((), row(1)), (row(0, 1, 1), row(1)), (row(-2, 1), row(1, -2)), (row(1, Fraction(-1, 2)), row(1, -2)), (row(1), row(1, Fraction(-1, 2))),
    (row(0, 1), row(1, Fraction(-1, 2))), (row(1), row(1, -1)), (row(Fraction(1, 2), 1), row(1, Fraction(-1, 2))),
)
WRONG_PLACE_TUPLES = tuple((each, None) for each in STRANGE if type(each) is not tuple) + (
    (True, None), (0, None), ([ZERO], None), ((ZERO,) * 7, None), ((None,) * 7, None), ((None,), 0), (ONE, 0), ((ONE,), 0), ((ZERO, ONE), 1),
    ((ZERO, HALF, num(0, -2)), 2), ((ZERO, True), 1), ((ZERO, (0, 1)), 1), ((ZERO,) * 5 + (num(1, 1),), 5), ((ZERO, [ZERO]), 1),
    ((ZERO, ((2, 4), (0, 1)), ONE), 1), ((ZERO, HALF, None, ONE), 2),
) + tuple(((HALF, each), 1) for each in WRONG_PLACES)


class RefusalTest(unittest.TestCase):
    def test_wrong_arguments(self):
        rim_like = given(InvalidQuotient, WRONG_QUOTIENTS + NO_RIMS)
        check_refusals(self, bound_of, (("rim", rim_like, SQUARE),))
        check_refusals(self, taken, (("rim", rim_like, SQUARE), ("number", given(InvalidNumber, WRONG_NUMBERS), DOUBLE)))
        check_refusals(self, taken_at, (("rim", rim_like, SQUARE), ("other", rim_like, SQUARE)))
        check_refusals(self, rounds, (("quotient", given(InvalidQuotient, WRONG_QUOTIENTS), SLOW),))
        number = ("number", given(InvalidNumber, WRONG_FACTORS), DOUBLE)
        check_refusals(self, rim_of, (number, ("row", given(InvalidRow, WRONG_ROWS + ((), row(1, 1), row(-3, 1), row(0, 0, 1, 1))), row(0, 1))))
        check_refusals(self, rim_of_places, (number, ("places", indexed(InvalidPlaces, WRONG_PLACE_TUPLES), (ZERO,))))

    def test_left_out_the_bound_is_one(self):
        self.assertEqual([is_rim_one(each) for each in (SQUARE, SLOW, (row(Pair(1, 1)), row(1)))], [True, False, False])
        check_bound_left_out(self, is_rim_one, SQUARE)

    def test_no_size_of_a_rim_one_is_told_for_another_bound(self):
        for quotient, factor, _ in rim_cases(118, 4):
            self.assertEqual(frac(bound_of(quotient)), factor.size())
            self.assertIs(is_rim_one(quotient), factor.size() == 1)


if __name__ == "__main__":
    unittest.main()
