"""withinrim.turns: where turns lead, back and behind one another, apartness, turns between numbers."""

import random
import unittest
from fractions import Fraction

from tests.support import (
    HALF, ONE, TOO_FAR, WRONG_BOUNDS, WRONG_NUMBERS, WRONG_TURNS, Pair, check_bound_left_out, check_refusals, frac,
    given, num, own_led, pair,
    quotient_at, reduced_fraction, reduced_number, refused, rim, rim_one, row, some_number, some_pair, some_places,
    some_turn, told,
)
from withinrim.answers import answer
from withinrim.errors import InvalidFraction, InvalidNumber, InvalidTurn
from withinrim.helds import is_up_to, rim_gap
from withinrim.quotients import is_quotient, quotient_degree
from withinrim.turns import apartness, back, behind, is_turn, led, turn_between, turn_quotient

ZERO, I = num(0), num(0, 1)
LESS, DOUBLE = num(Fraction(-1, 2)), num(2)
SHIFT = (ONE, HALF)
BOUNDS = (Fraction(1), Fraction(4), Fraction(2), Fraction(1, 9), Fraction(7, 5))


def own_apartness(z, w, bound):
    return bound * (z - w).size() / (Pair(bound) - w.mirrored() * z).size()


class TurnTest(unittest.TestCase):
    def test_what_turns_are(self):
        self.assertEqual([is_turn(SHIFT), is_turn((HALF, ZERO)), is_turn((ONE, ONE)), is_turn((ONE, ONE), (4, 1))],
                         [True, False, False, True])
        self.assertIs(is_turn(value=(ONE, num(1, 1)), bound=(2, 1)), False)
        self.assertIs(is_turn((ONE, num(1, 1)), (200001, 100000)), True)
        for value in WRONG_TURNS:
            self.assertIs(is_turn(value), False, value)
            self.assertIs(is_turn(value, (9, 1)), False, value)
        for value in TOO_FAR:
            self.assertIs(is_turn(value), False)
            self.assertIs(is_turn(value, (9, 1)), True)
        source = random.Random(91)
        for bound in BOUNDS:
            self.assertIs(is_turn(some_turn(source, bound), told(bound)), True)

    def test_a_wrong_bound_is_refused_whatever_the_value_is(self):
        for bound in WRONG_BOUNDS:
            for value in (SHIFT, None, 7, (ONE, None)):
                refused(self, InvalidFraction, "given", bound, is_turn, value, bound)
                refused(self, InvalidFraction, "given", bound, is_turn, bound=bound, value=value)

    def test_leading_by_hand(self):
        self.assertEqual([led(SHIFT, ZERO), led(SHIFT, ONE), led(SHIFT, DOUBLE)], [LESS, ONE, None])
        self.assertEqual(led((ONE, ONE), DOUBLE, (4, 1)), DOUBLE)
        self.assertIsNone(led(turn=(ONE, ONE), number=num(4), bound=(4, 1)))
        self.assertEqual(led((I, ZERO), num(3, 5)), num(-5, 3))
        self.assertEqual(led((ONE, HALF), num(0, 1)), (Pair(Fraction(-1, 2), 1) / Pair(1, Fraction(-1, 2))).number())

    def test_sides_are_kept(self):
        source = random.Random(92)
        for bound in BOUNDS:
            for _ in range(15):
                turn, z = some_turn(source, bound), some_pair(source, 5, 3)
                found, a = led(turn, z.number(), told(bound)), pair(turn[1])
                self.assertEqual(pair(found), own_led(turn, z, bound))
                under = (Pair(1) - a.mirrored() * z / Pair(bound)).size()
                self.assertEqual(bound - pair(found).size(), (bound - a.size()) * (bound - z.size()) / (bound * under))
                self.assertTrue(reduced_number(found))
                if a != Pair(0):
                    self.assertIsNone(led(turn, (Pair(bound) / a.mirrored()).number(), told(bound)))

    def test_on_the_rim(self):
        for x in (Fraction(0), Fraction(2), Fraction(-1, 3)):
            found = led((I, num(Fraction(1, 3), Fraction(1, 4))), rim(x).number())
            self.assertEqual(pair(found).size(), 1)


class BackTest(unittest.TestCase):
    def test_by_hand(self):
        self.assertEqual(back(SHIFT), (ONE, LESS))
        self.assertEqual(back(turn=(I, HALF)), (num(0, -1), num(0, Fraction(-1, 2))))
        self.assertEqual(back((ONE, num(100))), (ONE, num(-100)))

    def test_there_and_back(self):
        source = random.Random(93)
        for bound in BOUNDS:
            for _ in range(10):
                turn, z = some_turn(source, bound), some_number(source, bound).number()
                other = back(turn)
                self.assertIs(is_turn(other, told(bound)), True)
                self.assertEqual(back(other), turn)
                self.assertEqual(led(other, led(turn, z, told(bound)), told(bound)), z)
                self.assertEqual(led(turn, led(other, z, told(bound)), told(bound)), z)
                self.assertEqual(behind(turn, other, told(bound)), (ONE, ZERO))

    def test_any_turn_for_some_bound(self):
        for turn in TOO_FAR:
            self.assertEqual(back(back(turn)), turn)
        for value in WRONG_TURNS:
            refused(self, InvalidTurn, "given", value, back, value)
            refused(self, InvalidTurn, "given", value, back, turn=value)


class BehindTest(unittest.TestCase):
    def test_by_hand(self):
        self.assertEqual(behind(SHIFT, SHIFT), (ONE, num(Fraction(4, 5))))
        self.assertEqual(behind(turn=(I, ZERO), other=SHIFT, bound=(1, 1)), (I, num(0, Fraction(-1, 2))))
        self.assertEqual(behind(SHIFT, (I, ZERO)), (I, HALF))

    def test_first_the_one_then_the_other(self):
        source = random.Random(94)
        for bound in BOUNDS:
            for _ in range(10):
                one, two, z = some_turn(source, bound), some_turn(source, bound), some_number(source, bound)
                both = behind(one, two, told(bound))
                self.assertIs(is_turn(both, told(bound)), True)
                self.assertEqual(own_led(both, z, bound), own_led(two, own_led(one, z, bound), bound))
                self.assertEqual(behind(both, back(two), told(bound)), one)


class ApartnessTest(unittest.TestCase):
    def test_by_hand(self):
        self.assertEqual(apartness(HALF, LESS), (16, 25))
        self.assertEqual(apartness(one=ONE, two=num(-1), bound=(4, 1)), (16, 25))
        self.assertEqual(apartness(HALF, HALF), (0, 1))
        self.assertEqual(apartness(ZERO, num(Fraction(1, 2), Fraction(1, 2))), (1, 2))

    def test_turns_keep_it(self):
        source = random.Random(95)
        for bound in BOUNDS:
            for _ in range(10):
                turn, z, w = some_turn(source, bound), some_number(source, bound), some_number(source, bound)
                found = apartness(z.number(), w.number(), told(bound))
                self.assertTrue(reduced_fraction(found) and 0 <= frac(found) < 1)
                self.assertIs(found == (0, 1), z == w)
                self.assertEqual(frac(found), own_apartness(z, w, bound))
                self.assertEqual(apartness(w.number(), z.number(), told(bound)), found)
                moved = [led(turn, each.number(), told(bound)) for each in (z, w)]
                self.assertEqual(apartness(moved[0], moved[1], told(bound)), found)

    def test_values_are_no_further_apart_than_places(self):
        source = random.Random(96)
        data = ((ZERO, (num(Fraction(1, 3)),)), (HALF, (num(Fraction(1, 4), Fraction(1, 5)),)))
        for s in (((), row(1)), (row(Fraction(1, 2), Fraction(1, 3)), row(1)), (row(Pair(0, 1)), row(1)), (row(0, 1), row(1))):
            found = answer(data, s)
            for _ in range(6):
                z, w = some_places(source, 2)
                values = [quotient_at(found, each).number() for each in (z, w)]
                self.assertLess(frac(apartness(values[0], values[1])), own_apartness(z, w, 1))
        for bound in BOUNDS:
            # Of a turn's quotient, made greater and led by a turn: just as far.
            root = next(each for each in (Fraction(1), Fraction(2), Fraction(1, 3), None) if each is None or each * each == bound)
            if root is None:
                continue
            one, two = some_turn(source, Fraction(1)), some_turn(source, bound)
            for _ in range(6):
                z, w = some_places(source, 2)
                values = [led(two, (own_led(one, each, 1) * Pair(root)).number(), told(bound)) for each in (z, w)]
                self.assertEqual(frac(apartness(values[0], values[1], told(bound))), own_apartness(z, w, 1))


class BetweenTest(unittest.TestCase):
    def test_by_hand(self):
        self.assertEqual(turn_between(ZERO, HALF, HALF, ZERO), (num(-1), HALF))
        self.assertIsNone(turn_between(ZERO, HALF, HALF, HALF))
        self.assertIsNone(turn_between(HALF, HALF, ZERO, HALF))
        self.assertIsNone(turn_between(one=ZERO, two=HALF, three=ZERO, four=num(Fraction(1, 3))))
        self.assertEqual(turn_between(ZERO, HALF, ZERO, num(0, Fraction(1, 2)), bound=(9, 1)), (I, ZERO))

    def test_the_only_one(self):
        source = random.Random(97)
        for bound in BOUNDS:
            for _ in range(10):
                turn, z, w = some_turn(source, bound), some_number(source, bound).number(), some_number(source, bound).number()
                there = [led(turn, each, told(bound)) for each in (z, w)]
                found = turn_between(z, w, there[0], there[1], told(bound))
                if z != w:
                    self.assertEqual(found, turn)
                other = (pair(there[1]) * Pair(Fraction(99, 100)) + Pair(0, Fraction(1, 10 ** 6))).number()
                if own_apartness(pair(there[0]), pair(other), bound) != own_apartness(pair(z), pair(w), bound):
                    self.assertIsNone(turn_between(z, w, there[0], other, told(bound)))

    def test_one_number_twice(self):
        source = random.Random(98)
        for bound in BOUNDS:
            z, w = [some_number(source, bound).number() for _ in range(2)]
            found = turn_between(z, z, w, w, told(bound))
            self.assertIs(is_turn(found, told(bound)), True)
            self.assertEqual(led(found, z, told(bound)), w)

    def test_hardly_unlike(self):
        near = num(Fraction(1, 2) + Fraction(1, 10 ** 40))
        self.assertIsNone(turn_between(ZERO, HALF, ZERO, near))
        self.assertIsNone(turn_between(HALF, near, ZERO, ZERO))


class QuotientTest(unittest.TestCase):
    def test_by_hand(self):
        self.assertEqual(turn_quotient(SHIFT), (row(Fraction(-1, 2), 1), row(1, Fraction(-1, 2))))
        self.assertEqual(turn_quotient((I, ZERO)), (row(0, Pair(0, 1)), row(1)))
        self.assertEqual(turn_quotient(turn=(ONE, I), bound=(2, 1)), (row(Pair(0, -1), 1), row(1, Pair(0, Fraction(1, 2)))))

    def test_it_is_the_turn(self):
        source = random.Random(99)
        for bound in BOUNDS:
            for _ in range(8):
                turn, z = some_turn(source, bound), some_number(source, bound)
                quotient = turn_quotient(turn, told(bound))
                self.assertIs(is_quotient(quotient), True)
                self.assertEqual(quotient_degree(quotient), 1)
                self.assertEqual(quotient_at(quotient, z), own_led(turn, z, bound))
                if bound == 1:
                    self.assertIs(is_up_to(quotient), True)
                    self.assertEqual(rim_gap(quotient), ())
                    self.assertEqual(quotient, rim_one(pair(turn[0]), [pair(turn[1])]))


class RefusalTest(unittest.TestCase):
    def test_wrong_arguments(self):
        bound = ("bound", given(InvalidFraction, WRONG_BOUNDS), (2, 3))
        turn = given(InvalidTurn, WRONG_TURNS + TOO_FAR)
        number = given(InvalidNumber, WRONG_NUMBERS)
        small = given(InvalidNumber, WRONG_NUMBERS + (ONE, num(Fraction(3, 4), Fraction(1, 2)), num(100), num(0, -1)))
        check_refusals(self, led, (("turn", turn, SHIFT), ("number", number, num(9)), bound), (2, 0, 1))
        check_refusals(self, behind, (("turn", turn, SHIFT), ("other", turn, SHIFT), bound), (2, 0, 1))
        check_refusals(self, apartness, (("one", small, HALF), ("two", small, ZERO), bound), (2, 0, 1))
        check_refusals(self, turn_quotient, (("turn", turn, SHIFT), bound), (1, 0))
        four = [(name, small, right) for name, right in (("one", HALF), ("two", ZERO), ("three", HALF), ("four", ZERO))]
        check_refusals(self, turn_between, (*four, bound), (4, 0, 1, 2, 3))

    def test_numbers_of_just_the_bounds_size(self):
        for value in (num(1, 1), num(-1, 1)):
            refused(self, InvalidNumber, "given", value, apartness, value, ZERO, (2, 1))
            refused(self, InvalidNumber, "given", value, apartness, ZERO, value, (2, 1))
            refused(self, InvalidTurn, "given", (ONE, value), led, (ONE, value), ZERO, (2, 1))
            self.assertEqual(led((ONE, ZERO), value, (2, 1)), value)

    def test_left_out_the_bound_is_one(self):
        near = num(Fraction(9, 10))
        self.assertEqual([is_turn((ONE, near)), is_turn((ONE, ONE))], [True, False])
        check_bound_left_out(self, led, SHIFT, HALF[:1] + ((1, 3),))
        check_bound_left_out(self, behind, SHIFT, SHIFT)
        check_bound_left_out(self, turn_quotient, SHIFT)
        check_bound_left_out(self, apartness, ZERO, HALF)
        self.assertEqual(turn_between(ZERO, near, ZERO, num(0, Fraction(9, 10))), (I, ZERO))
        refused(self, InvalidNumber, "given", ONE, turn_between, ZERO, ONE, ZERO, ONE)


if __name__ == "__main__":
    unittest.main()
