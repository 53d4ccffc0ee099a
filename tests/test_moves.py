"""withinrim.moves: DATA moved by turns of places and of values, both led to noughts, and the pencil of their bound."""

import random
import unittest
from fractions import Fraction

from tests.support import (
    HALF, ONE, SHAPES, TOO_FAR, WRONG_BOUNDS, WRONG_DATA, WRONG_TURNS, Pair, check_bound_left_out, check_refusals, cut, data_from, frac, given,
    indexed, made_quotient, num, own_led, own_value_table, pair, quotient_at, refused, rim, rim_one, row, shape_at,
    some_pair, some_places, some_turn, times_rows, told,
)
from withinrim.answers import answer, goes_along, values_at
from withinrim.data import does_have, is_data, many_values, table_of
from withinrim.errors import InvalidData, InvalidFraction, InvalidTurn, NotNow
from withinrim.moves import bound_pencil, moved_places, moved_values, to_noughts
from withinrim.pencils import compare_leasts, is_pencil, least_fraction, row_of, side_of_least
from withinrim.squares import counts_of, is_nonnegative, is_positive
from withinrim.steps import standing
from withinrim.turns import back, is_turn, led

ZERO, LESS = num(0), num(Fraction(-1, 2))
SHIFT = (ONE, HALF)
MATE = ((HALF, (HALF,)), (ZERO, (ZERO,)))
FAR = ((ZERO, (ZERO,)), (HALF, (ONE,)))
BOUNDS = (Fraction(1), Fraction(4), Fraction(2), Fraction(1, 9))


def any_data(source, counts, factor=1):
    return tuple((place.number(), tuple((some_pair(source, 5, 4) * Pair(factor)).number() for _ in range(many)))
                 for place, many in shape_at(source, counts))


def padded(quotient):
    longest = max(len(quotient[0]), len(quotient[1]))
    return [[pair(each) for each in some] + [Pair(0)] * (longest - len(some)) for some in quotient]


def behind_turn(quotient, turn):
    """f(turn back) of a QUOTIENT f, by the tests' own arithmetic: TOP and UNDER at (z + UNIT CENTRE) / (UNIT (1 ..))."""
    unit, centre = pair(back(turn)[0]), pair(back(turn)[1])
    above, below = row(Pair(0) - unit * centre, unit), cut([Pair(1), Pair(0) - centre.mirrored()])
    top, under = padded(quotient)
    made = []
    for some in (top, under):
        total = [Pair(0)] * len(some)
        for at, each in enumerate(some):
            part = row(1)
            for k in range(len(some) - 1):
                part = times_rows(part, above if k < at else below)
            for k, one in enumerate(part):
                total[k] = total[k] + each * pair(one)
        made.append(cut(total))
    return made_quotient(*made)


def led_by(quotient, turn, bound):
    """A QUOTIENT led by a turn for a bound, likewise."""
    unit, drawn = pair(turn[0]), pair(turn[1]).mirrored() / Pair(bound)
    top, under = padded(quotient)
    return made_quotient(cut(unit * (x - pair(turn[1]) * y) for x, y in zip(top, under)), cut(y - drawn * x for x, y in zip(top, under)))


class PlacesTest(unittest.TestCase):
    def test_by_hand(self):
        self.assertEqual(moved_places(MATE, SHIFT), ((ZERO, (HALF,)), (LESS, (ZERO,))))
        self.assertEqual(moved_places(data=((ZERO, (ZERO, ONE)),), turn=SHIFT), ((LESS, (ZERO, num(Fraction(4, 3)))),))
        self.assertEqual(moved_places((), SHIFT), ())
        self.assertEqual(moved_places(((HALF, (num(5), num(6), num(7))),), (num(0, 1), ZERO)),
                         ((num(0, Fraction(1, 2)), (num(5), num(0, -6), num(-7))),))

    def test_of_a_quotient(self):
        source = random.Random(131)
        for counts in SHAPES:
            quotient = made_quotient(row(Fraction(1, 2), Pair(1, 1), Fraction(2, 3)), row(5, 1, Pair(0, 1)))
            shape, turn = shape_at(source, counts), some_turn(source, Fraction(1))
            data = data_from(quotient, shape)
            found = moved_places(data, turn)
            there = [own_led(turn, place, 1) for place, _ in shape]
            self.assertEqual(found, data_from(behind_turn(quotient, turn), list(zip(there, counts))))
            self.assertIs(is_data(found), True)
            self.assertEqual(moved_places(found, back(turn)), data)

    def test_kept(self):
        source = random.Random(132)
        for counts in SHAPES:
            data, turn = any_data(source, counts), some_turn(source, Fraction(1))
            found = moved_places(data, turn)
            self.assertEqual(row_of(bound_pencil(found)), row_of(bound_pencil(data)))
            self.assertEqual(compare_leasts(bound_pencil(found), bound_pencil(data)), 0)
            for bound in ((1, 1), (9, 2), (40, 1)):
                self.assertEqual(standing(found, bound), standing(data, bound))
                self.assertEqual(counts_of(table_of(found, bound)), counts_of(table_of(data, bound)))


class ValuesTest(unittest.TestCase):
    def test_by_hand(self):
        self.assertEqual(moved_values(MATE, SHIFT), ((HALF, (ZERO,)), (ZERO, (LESS,))))
        self.assertEqual(moved_values(data=(), turn=SHIFT, bound=(1, 1)), ())
        # (w - 1) / (1 - w / 4) of 2 + h: 2; the slope 3 / 4 over 1 / 4.
        self.assertEqual(moved_values(((ZERO, (num(2), ONE)),), (ONE, ONE), (4, 1)), ((ZERO, (num(2), num(3))),))

    def test_of_a_quotient(self):
        source = random.Random(133)
        for counts in SHAPES:
            for bound in BOUNDS:
                quotient = made_quotient(row(Fraction(1, 9), Pair(1, 1), Fraction(2, 3)), row(7, 1, Pair(0, 1)))
                shape, turn = shape_at(source, counts), some_turn(source, bound)
                data = data_from(quotient, shape)
                found = moved_values(data, turn, told(bound))
                self.assertEqual(found, data_from(led_by(quotient, turn, bound), shape))
                self.assertEqual(moved_values(found, back(turn), told(bound)), data)

    def test_kept(self):
        source = random.Random(134)
        for counts in SHAPES:
            for bound in BOUNDS:
                factor = Fraction(source.randint(1, 9), 9) * (1 if bound >= 1 else Fraction(1, 4))
                data, turn = any_data(source, counts, factor), some_turn(source, bound)
                found = moved_values(data, turn, told(bound))
                self.assertEqual([(place, len(values)) for place, values in found], [(place, len(values)) for place, values in data])
                self.assertEqual(standing(found, told(bound)), standing(data, told(bound)))
                self.assertEqual(counts_of(table_of(found, told(bound))), counts_of(table_of(data, told(bound))))

    def test_values_that_go_along(self):
        source = random.Random(135)
        for counts in ((1,), (2,), (1, 1), (2, 1), (1, 1, 1)):
            quotient = rim_one(Pair(2), some_places(source, sum(counts) + 1, (2, 3)))
            data = data_from(quotient, shape_at(source, counts))
            turn, way = some_turn(source, Fraction(4)), some_turn(source, Fraction(1))
            moved = moved_values(data, turn, (4, 1))
            place = num(Fraction(6, 7))
            for s in (row(0, 2), row(Pair(0, 2)), row(1)):
                value = quotient_at(answer(data, (s, row(1)), (4, 1)), pair(place))
                for more in (value, value * Pair(Fraction(101, 100)), value * Pair(Fraction(99, 100), Fraction(1, 50)), value + Pair(0, 3)):
                    there = led(turn, more.number(), (4, 1))
                    along = goes_along(data, place, more.number(), (4, 1))
                    if there is not None:
                        self.assertIs(goes_along(moved, place, there, (4, 1)), along)
                    self.assertIs(goes_along(moved_places(data, way), led(way, place), more.number(), (4, 1)), along)
            self.assertEqual(values_at(moved_places(data, way), led(way, place), (4, 1)), values_at(data, place, (4, 1)))

    def test_led_nowhere(self):
        for data, turn, bound in (
                (((ZERO, (num(2),)),), SHIFT, (1, 1)), (MATE + ((LESS, (num(2),)),), SHIFT, (1, 1)), (((ZERO, (num(4), ONE)),), (ONE, ONE), (4, 1)),
                (((ZERO, (ZERO, ONE)), (HALF, (num(0, 2),))), (num(-1), num(0, Fraction(1, 2))), (1, 1))):
            refused(self, NotNow, None, None, moved_values, data, turn, bound)
        # Only first values are led.
        self.assertEqual(len(moved_values(((ZERO, (ZERO, num(2), num(2))),), SHIFT)), 1)


class NoughtsTest(unittest.TestCase):
    def test_by_hand(self):
        self.assertEqual(to_noughts(MATE), (SHIFT, SHIFT, ((ZERO, (ZERO,)), (LESS, (LESS,)))))
        self.assertEqual(to_noughts(data=((ZERO, (ZERO,)),), bound=(1, 9)), ((ONE, ZERO), (ONE, ZERO), ((ZERO, (ZERO,)),)))

    def test_first_place_and_value_come_to_nought(self):
        source = random.Random(136)
        for counts in SHAPES:
            for bound in BOUNDS:
                data = any_data(source, counts, Fraction(1, 40))
                places, values, found = to_noughts(data, told(bound))
                self.assertEqual((places, values), ((ONE, data[0][0]), (ONE, data[0][1][0])))
                self.assertTrue(is_turn(places) and is_turn(values, told(bound)))
                self.assertEqual((found[0][0], found[0][1][0]), (ZERO, ZERO))
                self.assertEqual(found, moved_values(moved_places(data, places), values, told(bound)))
                self.assertEqual(moved_places(moved_values(found, back(values), told(bound)), back(places)), data)
                self.assertEqual(standing(found, told(bound)), standing(data, told(bound)))
                self.assertEqual(many_values(found), many_values(data))

    def test_not_now(self):
        for data, bound in (((), (1, 1)), (((ZERO, (ONE,)),), (1, 1)), (FAR[::-1], (1, 1)), (((ZERO, (num(2),)),), (4, 1)), (((ZERO, (num(2),)),), (3, 1)),
                            (((ZERO, (HALF,)), (HALF, (num(2),))), (1, 1)), (((ZERO, (ONE,)), (HALF, (num(4),))), (4, 1))):
            refused(self, NotNow, None, None, to_noughts, data, bound)
        self.assertEqual(to_noughts(FAR)[2], FAR)
        # Only the first value of the first place has to be below the bound.
        self.assertEqual(to_noughts(((ZERO, (ZERO, num(9))),))[2], ((ZERO, (ZERO, num(9))),))
        self.assertEqual(to_noughts(((ZERO, (HALF,)), (HALF, (num(3),))))[2][1], (HALF, (num(-5),)))


class PencilTest(unittest.TestCase):
    def test_by_hand(self):
        self.assertEqual(bound_pencil(FAR), ((row(1, 1), row(1, Fraction(4, 3))), (row(0, 0), row(0, Fraction(4, 3)))))
        self.assertEqual(bound_pencil(data=()), ((), ()))
        self.assertEqual(least_fraction(bound_pencil(FAR)), (4, 1))
        self.assertEqual(bound_pencil(((ZERO, (num(2), num(0, 3))),)), ((row(1, 0), row(0, 1)), (row(4, Pair(0, -6)), row(Pair(0, 6), 13))))

    def test_all_shapes(self):
        source = random.Random(137)
        for counts in SHAPES:
            data = any_data(source, counts)
            s, r = bound_pencil(data)
            self.assertEqual((s, r), own_value_table(data))
            self.assertIs(is_pencil((s, r)), True)
            self.assertIs(is_positive(s) and is_nonnegative(r), True)

    def test_below_at_above_the_least(self):
        source = random.Random(138)
        for counts in SHAPES:
            factor = source.choice((Pair(3), Pair(1, 1), Pair(0, Fraction(2, 7))))
            data = data_from(rim_one(factor, some_places(source, source.randint(0, sum(counts) - 1), (2, 3))), shape_at(source, counts))
            pencil = bound_pencil(data)
            least = least_fraction(pencil)
            self.assertEqual(frac(least), factor.size())
            for part, word in ((Fraction(99, 100), "none"), (1, "one"), (Fraction(101, 100), "many")):
                self.assertEqual(standing(data, told(frac(least) * part)), word)
        for counts in SHAPES:
            data = any_data(source, counts)
            for bound in ((1, 3), (2, 1), (9, 1), (50, 1), (10 ** 4, 1)):
                self.assertEqual({-1: "none", 0: "one", 1: "many"}[side_of_least(bound_pencil(data), bound)], standing(data, bound))

    def test_one_value_and_noughts(self):
        self.assertEqual(least_fraction(bound_pencil(((HALF, (num(3, 4),)),))), (25, 1))
        self.assertEqual(least_fraction(bound_pencil(((HALF, (ZERO,)), (ZERO, (ZERO, ZERO))))), (0, 1))


class PlaceNoughtTest(unittest.TestCase):
    def test_the_place_nought_alone(self):
        data = ((ZERO, (Pair(Fraction(1, 3)).number(), num(0, Fraction(1, 4)), num(Fraction(1, 5)))),)
        s, _ = bound_pencil(data)
        self.assertEqual(s, (row(1, 0, 0), row(0, 1, 0), row(0, 0, 1)))
        turn = (rim(Fraction(1, 2)).number(), num(Fraction(1, 3), Fraction(-1, 4)))
        self.assertEqual(moved_places(moved_places(data, turn), back(turn)), data)
        places, values, found = to_noughts(data)
        self.assertEqual((places, values), ((ONE, ZERO), (ONE, num(Fraction(1, 3)))))
        # (w - 1 / 3) / (1 - w / 3) of 1 / 3 + x: 9 / 8 x + 27 / 64 x x ..
        self.assertEqual(found, ((ZERO, (ZERO, num(0, Fraction(9, 32)), num(Fraction(9, 40) - Fraction(27, 64) / 16))),))
        self.assertIs(does_have(found, (cut([Pair(0), pair(found[0][1][1]), pair(found[0][1][2])]), row(1))), True)


class RefusalTest(unittest.TestCase):
    def test_wrong_arguments(self):
        data, bound = ("data", indexed(InvalidData, WRONG_DATA), MATE), ("bound", given(InvalidFraction, WRONG_BOUNDS), (2, 3))
        turn = ("turn", given(InvalidTurn, WRONG_TURNS + TOO_FAR), SHIFT)
        check_refusals(self, moved_places, (data, turn))
        check_refusals(self, moved_values, (data, turn, bound), (2, 0, 1))
        check_refusals(self, to_noughts, (data, bound), (1, 0))
        check_refusals(self, bound_pencil, (data,))

    def test_turns_for_the_bound(self):
        for turn in TOO_FAR:
            refused(self, InvalidTurn, "given", turn, moved_values, MATE, turn, (1, 1))
            refused(self, InvalidTurn, "given", turn, moved_places, MATE, turn)
            self.assertEqual(len(moved_values(MATE, turn, (9, 1))), 2)

    def test_not_now_is_last(self):
        for bound in WRONG_BOUNDS:
            refused(self, InvalidFraction, "given", bound, to_noughts, (), bound)
            refused(self, InvalidFraction, "given", bound, moved_values, FAR, (ONE, num(2)), bound)
        for value, index in WRONG_DATA:
            refused(self, InvalidData, "index", index, moved_values, value, (ONE, num(2)))

    def test_left_out_the_bound_is_one(self):
        check_bound_left_out(self, moved_values, MATE, (ONE, num(Fraction(9, 10))))
        refused(self, InvalidTurn, "given", (ONE, ONE), moved_values, MATE, (ONE, ONE))
        check_bound_left_out(self, to_noughts, ((HALF, (num(Fraction(9, 10)),)), (ZERO, (HALF,))))
        refused(self, NotNow, None, None, to_noughts, ((ZERO, (ONE,)),))


if __name__ == "__main__":
    unittest.main()
