"""withinrim.tames: tame QUOTIENTs and held ones, the tame table, its standing, and held DATA."""

import random
import unittest
from fractions import Fraction

from tests.support import (
    BOOLS, HALF, ONE, SHAPES, STRANGE, WRONG_DATA, WRONG_QUOTIENTS, Pair, check_refusals, cut, data_from, given, indexed,
    made_quotient, num, out_of, own_tame_table, pair, quotient_at, refused, rim, rim_one, row,
    shape_at, some_pair, some_places,
)
from withinrim.answers import some_answer, the_one
from withinrim.data import does_have, is_data, table_of
from withinrim.errors import InvalidData, InvalidQuotient, NotNow
from withinrim.helds import is_up_to
from withinrim.quotients import is_quotient
from withinrim.squares import mix_below, rank_of
from withinrim.steps import standing
from withinrim.tables import is_table
from withinrim.tames import held_data, held_of, is_tame, tame_of, tame_standing, tame_table

ZERO, DOUBLE, LINE = num(0), num(2), (row(0, 1), row(1))


def own_tame(quotient):
    """(1 + f) / (1 - f), by the tests' own arithmetic; f has not the value 1 at 0."""
    top, under = [list(map(pair, each)) for each in quotient]
    longest = max(len(top), len(under))
    top, under = top + [Pair(0)] * (longest - len(top)), under + [Pair(0)] * (longest - len(under))
    return made_quotient(cut(x + y for x, y in zip(under, top)), cut(x - y for x, y in zip(under, top)))


def held_cases(seed):
    """Held QUOTIENTs that are not 1 at 0: numbers, small ones, rim ones of some degrees."""
    source = random.Random(seed)
    found = [((), row(1)), (row(-1), row(1)), (row(Pair(0, 1)), row(1)), (row(Fraction(1, 2)), row(1)), LINE, (row(0, -1), row(1)),
             (row(0, 0, 1), row(1)), (row(0, Pair(0, 1)), row(1)), (row(Fraction(1, 2), Fraction(1, 2)), row(1)),
             (row(Fraction(-1, 2), Fraction(1, 2)), row(1)), (row(rim(Fraction(3, 4))), row(1))]
    for degree in range(1, 5):
        found.append(rim_one(rim(Fraction(source.randint(1, 9), 4)), some_places(source, degree)))
        small = row(*[some_pair(source, 2, 3) * Pair(Fraction(1, 9)) for _ in range(degree)], Fraction(1, 10))
        found.append(made_quotient(small, row(1, Fraction(1, 5))))
    return [each for each in found if is_up_to(each)]


class TameTest(unittest.TestCase):
    def test_by_hand(self):
        self.assertEqual(tame_of(LINE), (row(1, 1), row(1, -1)))
        self.assertEqual([is_tame(tame_of(LINE)), is_tame(value=LINE), held_of(tame_of(quotient=LINE)) == LINE], [True, False, True])
        self.assertEqual(tame_of((row(-1), row(1))), ((), row(1)))
        self.assertEqual(held_of(quotient=((), row(1))), (row(-1), row(1)))
        self.assertEqual(held_of((row(Pair(0, 1)), row(1))), (row(Pair(0, 1)), row(1)))

    def test_what_is_tame(self):
        for quotient in ((), row(1)), (row(1), row(1)), (row(Pair(0, 5)), row(1)), (row(Pair(0, -5)), row(1)), (row(1, 1), row(1)), \
                (row(1, -1), row(1)), (row(2, 1), row(1)), (row(1), row(1, -1)), (row(1, 1), row(1, -1)), (row(1, 0, 1), row(1, 0, -1)), \
                (row(Pair(1, 1), Pair(0, 1)), row(1)), (row(1), row(1, Fraction(1, 2))):
            self.assertIs(is_quotient(quotient), True)
            self.assertIs(is_tame(quotient), True, quotient)
        for quotient in (LINE, (row(-1), row(1)), (row(Pair(Fraction(-1, 10 ** 20), 5)), row(1)), (row(1, 2), row(1)), (row(1, Pair(0, -2)), row(1)),
                         (row(1), row(1, -2)), (row(1, 1), row(1, -2)), (row(1, 2), row(1, -1)), (row(-1, 1), row(1)), (row(0, 1), row(1, -1)),
                         (row(1), row(1, -2, 1)), (row(1, -3), row(1)), (row(-2), row(1)), (row(1, 1, 1), row(1)), (row(-1, -1), row(1, -1)),
                         (row(Pair(0, 1), Pair(0, 1)), row(1, -1))):
            self.assertIs(is_quotient(quotient), True)
            self.assertIs(is_tame(quotient), False, quotient)
            refused(self, NotNow, None, None, held_of, quotient)

    def test_whatever_is_passed(self):
        for value in WRONG_QUOTIENTS:
            self.assertIs(is_tame(value), False)
        for value in STRANGE + BOOLS:
            self.assertIs(is_tame((row(1), value)), False)
            self.assertIs(is_tame((value, row(1))), False)

    def test_there_and_back(self):
        source = random.Random(121)
        for held in held_cases(122):
            tame = tame_of(held)
            self.assertEqual(tame, own_tame(held))
            self.assertIs(is_tame(tame), True)
            self.assertEqual(held_of(tame), held)
            for z in some_places(source, 4):
                self.assertGreaterEqual(quotient_at(tame, z).re, 0)

    def test_tame_exactly_if_what_is_led_back_is_held(self):
        source = random.Random(123)
        seen = []
        for _ in range(60):
            top = cut([some_pair(source, 2, 3) + Pair(2)] + [some_pair(source, 2, 3) for _ in range(source.randint(0, 2))])
            under = row(1, Fraction(source.randint(-6, 6), 6), Pair(0, Fraction(source.randint(0, 2), 3)))
            quotient = made_quotient(top, cut(map(pair, under)))
            if not is_quotient(quotient):
                continue
            # What is led back: TOP - UNDER over TOP + UNDER.
            longest = max(len(quotient[0]), len(quotient[1]))
            one, two = [[pair(each) for each in some] + [Pair(0)] * (longest - len(some)) for some in quotient]
            back = made_quotient(cut(x - y for x, y in zip(one, two)), cut(x + y for x, y in zip(one, two)))
            if is_quotient(back):
                self.assertIs(is_tame(quotient), is_up_to(back))
                seen.append(is_up_to(back))
        self.assertGreater(min(seen.count(True), seen.count(False)), 5)

    def test_not_now(self):
        for quotient in ((row(1), row(1)), (row(1, 1), row(1)), (row(2), row(1)), (row(0, 2), row(1)), (row(1), row(1, -2)), (row(1), row(1, -1)), (row(1, Fraction(1, 9)), row(1))):
            refused(self, NotNow, None, None, tame_of, quotient)
        self.assertEqual(tame_of((row(Fraction(1, 2), Fraction(1, 2)), row(1))), (row(3, 1), row(1, -1)))


class TableTest(unittest.TestCase):
    def test_by_hand(self):
        self.assertEqual(tame_table(((ZERO, (ONE, ONE)),)), (row(2, 1), row(1, 2)))
        self.assertEqual(tame_table(data=()), ())
        self.assertEqual(tame_table(((HALF, (num(3, 5),)),)), ((num(8),),))
        self.assertEqual([tame_standing(((ZERO, (ONE, each)),)) for each in (ONE, DOUBLE, num(3))], ["many", "one", "none"])
        self.assertEqual(held_data(((ZERO, (ONE, ONE)),)), ((ZERO, (ZERO, HALF)),))
        self.assertEqual(tame_standing(data=()), "many")
        self.assertEqual(held_data(data=()), ())

    def test_all_shapes(self):
        source = random.Random(124)
        for counts in SHAPES:
            data = tuple((place.number(), tuple(some_pair(source).number() for _ in range(many))) for place, many in shape_at(source, counts))
            self.assertEqual(tame_table(data), own_tame_table(data))
            self.assertIs(is_table(tame_table(data)), True)

    def test_the_place_nought_alone(self):
        data = ((ZERO, (num(1, 5), num(2, -1), num(0, 3))),)
        self.assertEqual(tame_table(data), (row(2, Pair(2, 1), Pair(0, -3)), row(Pair(2, -1), 2, Pair(2, 1)), row(Pair(0, 3), Pair(2, -1), 2)))


class StandingTest(unittest.TestCase):
    def data_cases(self, seed):
        source = random.Random(seed)
        for held in held_cases(seed + 1):
            for counts in source.sample(SHAPES, 4):
                yield data_from(own_tame(held), shape_at(source, counts)), held, sum(counts)
        for counts in SHAPES * 2:
            yield tuple((place.number(), tuple((some_pair(source, 5, 3) * Pair(Fraction(1, 6)) + Pair(Fraction(1, 2))).number() for _ in range(many)))
                        for place, many in shape_at(source, counts)), None, sum(counts)

    def test_held_data_of_the_bound_one(self):
        words = []
        for data, held, many in self.data_cases(125):
            word, table = tame_standing(data), tame_table(data)
            words.append(word)
            mix = mix_below(table)
            self.assertIs(word == "none", mix is not None)
            if mix is not None:
                self.assertLess(out_of(table, mix).re, 0)
            else:
                self.assertIs(word == "one", rank_of(table) < many)
            if any(pair(values[0]).re < 0 for _, values in data):
                self.assertEqual(word, "none")
                refused(self, NotNow, None, None, held_data, data)
                continue
            back = held_data(data)
            self.assertIs(is_data(back), True)
            self.assertEqual([(place, len(values)) for place, values in back], [(place, len(values)) for place, values in data])
            self.assertEqual(standing(back), word)
            self.assertEqual(rank_of(table_of(back)), rank_of(table))
            if held is not None:
                self.assertIs(does_have(back, held), True)
                self.assertNotEqual(word, "none")
            self.assertTrue(all(values[0] != ONE for _, values in back))
            if word != "none":
                self.assertIs(does_have(data, tame_of(some_answer(back))), True)
        self.assertGreater(min(words.count(each) for each in ("many", "one", "none")), 4)

    def test_real_parts_of_nought(self):
        for value, word in ((ZERO, "one"), (num(0, 7), "one"), (num(0, -7), "one")):
            data = ((HALF, (value,)),)
            self.assertEqual(tame_standing(data), word)
            self.assertEqual(standing(held_data(data)), word)
            self.assertEqual(tame_of(the_one(held_data(data))), ((value,) if value != ZERO else (), row(1)))
            self.assertEqual(tame_standing(((HALF, (value, ZERO)), (ZERO, (value,)))), "one")
            self.assertEqual(tame_standing(((HALF, (value, ONE)),)), "none")
            self.assertEqual(tame_standing(((HALF, (value,)), (ZERO, (num(0, 1),)))), "none")
            self.assertEqual(held_data(((HALF, (value, ONE)),))[0][0], HALF)
        for value in (num(-1), num(Fraction(-1, 10 ** 30), 3), num(-5, 5)):
            for data in (((HALF, (value,)),), ((ZERO, (ONE, ONE)), (HALF, (value, ZERO)))):
                self.assertEqual(tame_standing(data), "none")
                refused(self, NotNow, None, None, held_data, data)
        # Only first values count.
        self.assertEqual(len(held_data(((HALF, (ONE, num(-9), num(-9))),))[0][1]), 3)

    def test_no_tame_series_but_one(self):
        # (1 + z) / (1 - z): 1 and 2 and 2 ..
        self.assertEqual(tame_standing(((ZERO, (ONE, DOUBLE, DOUBLE)), (HALF, (num(3),)))), "one")
        self.assertEqual(tame_standing(((ZERO, (ONE, DOUBLE, DOUBLE)), (HALF, (num(4),)))), "none")


class RefusalTest(unittest.TestCase):
    def test_wrong_arguments(self):
        for call in (tame_of, held_of):
            check_refusals(self, call, (("quotient", given(InvalidQuotient, WRONG_QUOTIENTS), LINE if call is tame_of else (row(1), row(1))),))
        for call in (tame_table, tame_standing, held_data):
            check_refusals(self, call, (("data", indexed(InvalidData, WRONG_DATA), ((ZERO, (ONE,)),)),))


if __name__ == "__main__":
    unittest.main()
