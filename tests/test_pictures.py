"""withinrim.pictures: pictures of the values at a PLACE, and of the PLACEs of a value, sign by sign."""

import random
import unittest
from fractions import Fraction

from tests.support import (
    HALF, LESS, ONE, WRONG_BOUNDS, WRONG_COUNTS, WRONG_DATA, WRONG_NUMBERS, WRONG_PLACES, Pair, check_bound_left_out,
    check_refusals, data_from, frac, given, indexed, num, own_standing, rim_one, shape_at, some_pair, some_places, told,
)
from withinrim.answers import some_answer
from withinrim.errors import InvalidCount, InvalidData, InvalidFraction, InvalidNumber, InvalidPlace
from withinrim.pictures import places_picture, values_picture
from withinrim.quotients import quotient_value
from withinrim.steps import standing

ZERO, QUARTER = num(0), num(Fraction(1, 4))
TWO, EDGE = ((ZERO, (ZERO,)), (HALF, (QUARTER,))), ((ZERO, (ZERO,)), (HALF, (HALF,)))
FAR = ((ZERO, (ZERO,)), (HALF, (ONE,)))


def numbers_of(count, side=1):
    """The numbers of a picture, row by row, as Pairs."""
    return [[Pair(side * Fraction(2 * c + 1 - count, count), side * Fraction(count - 1 - 2 * r, count)) for c in range(count)] for r in range(count)]


def own_side(bound):
    side = 0
    while side * side < frac(bound):
        side += 1
    return side


def own_value_sign(data, place, number, bound):
    """The sign of a number in a picture of values, by tables cleared in the tests' own arithmetic."""
    size, word = number.size(), own_standing(data, frac(bound))
    told_there = [values[0] for each, values in data if each == place]
    if word != "none" and told_there:
        if told_there[0] == number.number():
            return "o"
    elif word != "none":
        joint = own_standing(data + ((place, (number.number(),)),), frac(bound))
        if joint != "none":
            return "*" if joint == "many" else "o"
    return "." if size <= frac(bound) else " "


def own_place_sign(data, number, place, bound):
    """The sign of a place, likewise."""
    if place.size() >= 1:
        return " "
    if any(each == place.number() for each, _ in data):
        return "@"
    return {"many": "*", "one": "o", "none": "."}[own_standing(data + ((place.number(), (number,)),), frac(bound))]


def own_values_picture(data, place, count, bound):
    return "".join("".join(own_value_sign(data, place, each, bound) for each in line) + "\n" for line in numbers_of(count, own_side(bound)))


def own_places_picture(data, number, count, bound):
    return "".join("".join(own_place_sign(data, number, each, bound) for each in line) + "\n" for line in numbers_of(count))


def data_cases(seed):
    """DATA with the standings "many", "one" and "none", with their bounds."""
    source = random.Random(seed)
    for counts in ((), (1,), (2,), (3,), (1, 1), (2, 1), (1, 1, 1), (2, 2)):
        for factor in (Pair(1), Pair(Fraction(3, 2)), Pair(Fraction(1, 2), Fraction(1, 2))):
            shape = shape_at(source, counts)
            for degree in (0, 1, sum(counts) + 1):
                data = data_from(rim_one(factor, some_places(source, degree, (2, 3))), shape)
                yield data, told(factor.size() * source.choice((1, 1, Fraction(5, 4), Fraction(9, 10))))


class ValuesPictureTest(unittest.TestCase):
    def test_by_hand(self):
        self.assertEqual(values_picture(TWO, LESS, 4), " .. \n.*..\n.*..\n .. \n")
        self.assertEqual(values_picture((), ZERO, 2), "**\n**\n")
        self.assertEqual(values_picture(data=(), place=HALF, count=1, bound=(1, 1)), "*\n")
        # z alone: 1 / 2 at 1 / 2 is none of the signs, 2 / 5 at 2 / 5 is.
        self.assertEqual(values_picture(EDGE, HALF, 5), " ... \n.....\n.....\n.....\n ... \n")
        self.assertEqual(values_picture(EDGE, num(Fraction(2, 5)), 5), " ... \n.....\n...o.\n.....\n ... \n")
        self.assertEqual(values_picture(FAR, num(Fraction(2, 5)), 5), " ... \n.....\n.....\n.....\n ... \n")

    def test_edges_on_signs(self):
        # With 0 at 0 the values at a place fill the disc of its size.
        data = ((ZERO, (ZERO,)),)
        self.assertEqual(values_picture(data, num(Fraction(4, 5)), 5), " .o. \n.***.\no***o\n.***.\n .o. \n")
        self.assertEqual(values_picture(data, num(0, Fraction(-2, 5)), 5), " ... \n..o..\n.o*o.\n..o..\n ... \n")
        # Up to the size squared 5 / 8 without DATA: 1 / 4 + 3 / 4 i lies on the edge.
        self.assertEqual(values_picture((), HALF, 4, (5, 8)), " oo \no**o\no**o\n oo \n")
        self.assertEqual(values_picture((), HALF, 4, (10 ** 20 * 5 - 1, 8 * 10 ** 20)), "    \n ** \n ** \n    \n")
        self.assertEqual(values_picture((), HALF, 3, (4, 9)), " o \no*o\n o \n")

    def test_at_a_place_of_data(self):
        for data, bound in ((TWO, (1, 1)), (EDGE, (1, 1)), (((ZERO, (ZERO, ONE)),), (4, 1)), (((ZERO, (ZERO, ONE)),), (1, 1))):
            self.assertEqual(values_picture(data, ZERO, 3, bound), "...\n.o.\n...\n")
        self.assertEqual(values_picture(FAR, ZERO, 3), "...\n...\n...\n")
        self.assertEqual(values_picture(((HALF, (num(2),)),), HALF, 3), "...\n...\n...\n")
        # With the bound 9 the parts are taken three times: 2 is a sign, 1 / 2 is none.
        self.assertEqual(values_picture(((HALF, (num(2),)),), HALF, 3, (9, 1)), "...\n..o\n...\n")

    def test_sides(self):
        for bound, side in (((1, 9), 1), ((1, 1), 1), ((10 ** 20 + 1, 10 ** 20), 2), ((2, 1), 2), ((4, 1), 2), ((401, 100), 3), ((5, 1), 3), ((9, 1), 3), ((100, 1), 10), ((101, 1), 11)):
            self.assertEqual(own_side(bound), side)
            # Without DATA the signs tell just which numbers, taken so many times, are up to the bound.
            expected = "".join("".join("*" if each.size() < frac(bound) else "o" if each.size() == frac(bound) else " " for each in line) + "\n" for line in numbers_of(9, side))
            self.assertEqual(values_picture((), QUARTER, 9, bound), expected)

    def test_each_sign(self):
        source = random.Random(281)
        seen = {}
        for data, bound in data_cases(282):
            places = [each.number() for each in some_places(source, 1, (2, 3, 5))] + [place for place, _ in data[:1]]
            for place in places:
                count = source.choice((1, 2, 3, 4) if len(data) > 1 else (3, 5, 6))
                found = values_picture(data, place, count, bound)
                self.assertEqual(found, own_values_picture(data, place, count, bound), (data, place, count, bound))
                for sign in found:
                    seen[sign] = seen.get(sign, 0) + 1
        self.assertEqual(set(seen), set("*o. \n"))
        self.assertGreater(min(seen.values()), 4)

    def test_sixty(self):
        for data, place, bound in ((TWO, LESS, (1, 1)), (EDGE, num(Fraction(1, 3)), (1, 1)), (FAR, num(0, Fraction(1, 3)), (5, 1))):
            lines = values_picture(data, place, 60, bound).split("\n")
            self.assertEqual([len(line) for line in lines], [60] * 60 + [0])
            numbers = numbers_of(60, own_side(bound))
            for r in range(0, 60, 7):
                for c in range(0, 60, 5):
                    self.assertEqual(lines[r][c], own_value_sign(data, place, numbers[r][c], bound))
        for count in range(1, 61):
            lines = values_picture(TWO, LESS, count).split("\n")
            self.assertEqual([len(line) for line in lines], [count] * count + [0])


class PlacesPictureTest(unittest.TestCase):
    def test_by_hand(self):
        self.assertEqual(places_picture(EDGE, ZERO, 2), "..\n..\n")
        self.assertEqual(places_picture(data=(), number=ZERO, count=3, bound=(1, 1)), "***\n***\n***\n")
        # 1 nowhere but where it is told throughout.
        self.assertEqual(places_picture(((ZERO, (ONE,)),), ONE, 3), "ooo\no@o\nooo\n")
        self.assertEqual(places_picture(((ZERO, (ONE,)),), HALF, 3), "...\n.@.\n...\n")
        self.assertEqual(places_picture((), ONE, 2), "oo\noo\n")
        self.assertEqual(places_picture((), num(2), 2), "..\n..\n")
        self.assertEqual(places_picture((), num(2), 2, (4, 1)), "oo\noo\n")

    def test_edges_on_signs(self):
        # With 0 at 0 a value goes along just where the place is as great or greater in size.
        data = ((ZERO, (ZERO,)),)
        self.assertEqual(places_picture(data, num(Fraction(2, 5)), 5), " *** \n**o**\n*o@o*\n**o**\n *** \n")
        self.assertEqual(places_picture(data, num(0, Fraction(-4, 5)), 5), " *o* \n*...*\no.@.o\n*...*\n *o* \n")

    def test_each_sign(self):
        source = random.Random(283)
        seen = {}
        for data, bound in data_cases(284):
            one = some_answer(data, bound)
            values = [(some_pair(source, 5, 5) * Pair(Fraction(1, 4))).number()]
            if one is not None:
                # What some answer has at one of the signs.
                values.append(quotient_value(one, num(Fraction(1, 3), Fraction(2, 3))))
            for value in values:
                count = source.choice((1, 2, 3, 4) if len(data) > 1 else (3, 4, 6))
                found = places_picture(data, value, count, bound)
                self.assertEqual(found, own_places_picture(data, value, count, bound), (data, value, count, bound))
                for sign in found:
                    seen[sign] = seen.get(sign, 0) + 1
        self.assertEqual(set(seen), set("*o.@ \n"))
        self.assertGreater(min(seen.values()), 4)

    def test_places_of_data(self):
        data = ((num(Fraction(-3, 4), Fraction(1, 4)), (ZERO,)), (QUARTER, (ZERO,)), (num(Fraction(1, 4), Fraction(-3, 4)), (HALF,)))
        found = places_picture(data, ONE, 4).split("\n")
        self.assertEqual([found[1][0], found[3][2]], ["@", "@"])
        self.assertEqual("".join(found).count("@"), 2)

    def test_sixty(self):
        lines = places_picture(TWO, QUARTER, 60).split("\n")
        self.assertEqual([len(line) for line in lines], [60] * 60 + [0])
        numbers = numbers_of(60)
        for r in range(0, 60, 7):
            for c in range(0, 60, 5):
                self.assertEqual(lines[r][c], own_place_sign(TWO, QUARTER, numbers[r][c], (1, 1)))
        for count in range(1, 61, 3):
            lines = places_picture(EDGE, HALF, count).split("\n")
            self.assertEqual([len(line) for line in lines], [count] * count + [0])


class SevenValuesTest(unittest.TestCase):
    def lots(self):
        source = random.Random(285)
        for counts in ((1, 1, 1, 1, 1, 1), (2, 1, 3)):
            shape = shape_at(source, counts)
            for degree, bound in ((7, (1, 1)), (2, (1, 1)), (2, (9, 10))):
                quotient = rim_one(Pair(0, 1), some_places(source, degree, (2, 3)))
                yield data_from(quotient, shape), bound, quotient

    def test_both_together_have_seven_values(self):
        words = []
        for data, bound, quotient in self.lots():
            words.append(standing(data, bound))
            place = num(Fraction(3, 5), Fraction(1, 7))
            self.assertEqual(values_picture(data, place, 2, bound), own_values_picture(data, place, 2, bound))
            at = num(0)
            if all(each != at for each, _ in data):
                value = quotient_value(quotient, at)
                found = places_picture(data, value, 3, bound)
                self.assertEqual(found, own_places_picture(data, value, 3, bound))
                self.assertEqual(found[5], {"many": "*", "one": "o", "none": "."}[words[-1]])
        self.assertEqual(set(words), {"many", "one", "none"})


class DiscTest(unittest.TestCase):
    def test_one_closed_disc(self):
        # In each row and column the signs "*" stand side by side.
        for data, bound in data_cases(286):
            picture = values_picture(data, num(Fraction(1, 7), Fraction(3, 7)), 9, bound).split("\n")[:-1]
            for line in picture + ["".join(column) for column in zip(*picture)]:
                self.assertNotIn(" ", line.strip().strip(".o"))
                self.assertTrue(set(line.strip(" .o")) <= {"*"}, line)


class RefusalTest(unittest.TestCase):
    def test_wrong_arguments(self):
        data = ("data", indexed(InvalidData, WRONG_DATA), TWO)
        count = ("count", given(InvalidCount, WRONG_COUNTS), 2)
        bound = ("bound", given(InvalidFraction, WRONG_BOUNDS), (2, 3))
        check_refusals(self, values_picture, (data, ("place", given(InvalidPlace, WRONG_PLACES), LESS), count, bound))
        check_refusals(self, places_picture, (data, ("number", given(InvalidNumber, WRONG_NUMBERS), ONE), count, bound))

    def test_left_out_the_bound_is_one(self):
        check_bound_left_out(self, values_picture, ((ZERO, (ZERO,)),), num(Fraction(4, 5)), 5)
        check_bound_left_out(self, places_picture, (), ONE, 3)


if __name__ == "__main__":
    unittest.main()
