"""withinrim.plants: what plants are, their QUOTIENTs, mirrored and real ones."""

import unittest
from fractions import Fraction

from tests.support import (
    BOOLS, CORNER, HALF, LATER, LESS, REST, START, STRANGE, SURE, UNIT, WRONG_PLANTS, Pair, check_refusals, from_roots,
    indexed, made_quotient, mirrored_row_of, num, pair, plant_cases, row, times_rows,
)
from withinrim.errors import InvalidPlant
from withinrim.plants import is_plant, is_real_plant, mirrored_plant, quotient_of_plant
from withinrim.quotients import is_quotient, quotient_value
from withinrim.rootcounts import root_counts, times_root

ZERO = num(0)


class PlantTest(unittest.TestCase):
    def test_what_plants_are(self):
        for plant in (SURE, LATER, (START, (), UNIT), (((ZERO, 3), (HALF, 3)), (), UNIT), (START, ((HALF, 2), (CORNER, 3)), REST),
                      (((HALF, 1), (ZERO, 2)), ((LESS, 3),), UNIT)):
            self.assertIs(is_plant(plant), True)
            self.assertIs(is_plant(value=list(plant)), False)
        for plant in plant_cases(141):
            self.assertIs(is_plant(plant), True, plant)

    def test_whatever_is_passed(self):
        for value in STRANGE + BOOLS:
            self.assertIs(is_plant(value), False)
            self.assertIs(is_plant((value, (), UNIT)), False)
            self.assertIs(is_plant((START, value, UNIT)), False)
            self.assertIs(is_plant((START, (), value)), False)
            self.assertIs(is_plant((START + (value,), (), UNIT)), False)
            self.assertIs(is_plant((START, (value,), UNIT)), False)
            self.assertIs(is_plant((START, ((HALF, value),), UNIT)), False)
            self.assertIs(is_plant((START, ((value, 1),), UNIT)), False)
        for value, _ in WRONG_PLANTS:
            self.assertIs(is_plant(value), False, value)


class QuotientTest(unittest.TestCase):
    def test_by_hand(self):
        self.assertEqual(quotient_of_plant(SURE), (row(0, -2), row(1, -2)))
        self.assertEqual(quotient_of_plant(plant=(((ZERO, 2),), (), UNIT)), (row(0, 0, 1), row(1)))
        self.assertEqual(quotient_of_plant((START, (), REST)), (row(0, 3, Pair(0, 1)), REST[1]))
        # (z + 1 / 2) z over (z - i / 2) twice, - 1 / 4: - 4 z (z + 1 / 2) over 1 + 4 i z - 4 z z.
        self.assertEqual(quotient_of_plant((((ZERO, 1), (LESS, 1)), ((num(0, Fraction(1, 2)), 2),), UNIT)),
                         (row(0, -2, -4), row(1, Pair(0, 4), -4)))

    def test_roots(self):
        for zeros, poles, rest in plant_cases(142):
            found = quotient_of_plant((zeros, poles, rest))
            self.assertIs(is_quotient(found), True)
            for pairs, some in ((zeros, found[0]), (poles, found[1])):
                self.assertEqual([times_root(some, place) for place, _ in pairs], [many for _, many in pairs])
                within, on_rim, _ = root_counts(some)
                self.assertEqual((within, on_rim), (sum(many for _, many in pairs), 0))
            top = times_rows(rest[0], from_roots([pair(place) for place, many in zeros for _ in range(many)]))
            under = times_rows(rest[1], from_roots([pair(place) for place, many in poles for _ in range(many)]))
            self.assertEqual(found, made_quotient(top, under))
            self.assertEqual(quotient_value(found, ZERO), ZERO)


class MirroredTest(unittest.TestCase):
    def test_mirrored_in_the_same_order(self):
        self.assertEqual(mirrored_plant(LATER), (START, ((num(Fraction(1, 2), Fraction(-1, 2)), 1),), UNIT))
        self.assertEqual(mirrored_plant(plant=SURE), SURE)
        for zeros, poles, rest in plant_cases(143):
            found = mirrored_plant((zeros, poles, rest))
            expected = tuple(tuple((pair(place).mirrored().number(), many) for place, many in pairs) for pairs in (zeros, poles))
            self.assertEqual(found, (*expected, (mirrored_row_of(rest[0]), mirrored_row_of(rest[1]))))
            self.assertIs(is_plant(found), True)
            self.assertEqual(mirrored_plant(found), (zeros, poles, rest))
            quotient = quotient_of_plant((zeros, poles, rest))
            self.assertEqual(quotient_of_plant(found), (mirrored_row_of(quotient[0]), mirrored_row_of(quotient[1])))

    def test_real_ones(self):
        up, down = num(Fraction(1, 3), Fraction(1, 4)), num(Fraction(1, 3), Fraction(-1, 4))
        for plant, expected in (
                (SURE, True), (LATER, False), ((START, ((up, 1), (down, 1)), UNIT), True), ((START, ((up, 2), (down, 1)), UNIT), False),
                ((((ZERO, 1), (up, 2), (down, 2)), (), UNIT), True), ((((up, 1), (ZERO, 1)), ((down, 1),), UNIT), False), ((START, (), REST), False), ((START, (), (row(Pair(0, 1)), row(1))), False),
                ((START, (), (row(5, 1, 1), row(1, Fraction(1, 2)))), True), ((START, (), (row(1), row(1, Pair(0, Fraction(1, 2))))), False)):
            self.assertIs(is_real_plant(plant), expected, plant)
        for plant in plant_cases(144):
            top, under = quotient_of_plant(plant)
            self.assertIs(is_real_plant(plant=plant), all(each[1] == (0, 1) for each in top + under))


class RefusalTest(unittest.TestCase):
    def test_wrong_arguments(self):
        for call in (quotient_of_plant, mirrored_plant, is_real_plant):
            check_refusals(self, call, (("plant", indexed(InvalidPlant, WRONG_PLANTS), SURE),))

    def test_just_within_the_limits(self):
        six = tuple((num(Fraction(k, 9)), 1) for k in range(6))
        for plant in ((six, (), UNIT), (((ZERO, 3), (HALF, 3)), (), UNIT), (((ZERO, 3),), ((HALF, 3),), UNIT), (START, ((HALF, 3), (LESS, 2)), UNIT)):
            self.assertIs(is_plant(plant), True)


if __name__ == "__main__":
    unittest.main()
