"""withinrim.beats: what comes out and what is done, beat by beat, and the energy of NUMBERs."""

import random
import unittest
from fractions import Fraction

from tests.support import (
    HALF, ONE, SURE, WRONG_NUMBER_TUPLES, WRONG_PROCESSES, WRONG_QUOTIENTS, Pair, check_refusals, frac, given, indexed, num,
    own_loop, pair, plant_cases, quotient_at, row, some_pair, told,
)
from tests.test_loops import BACK, EVEN, IDLE, P, least_above, some_pairs_of_loops
from withinrim.beats import beats, energy
from withinrim.bounds import keeps, some_controller
from withinrim.errors import InvalidNumbers, InvalidQuotient
from withinrim.helds import above_at, is_up_to
from withinrim.loops import echo_of, is_steadied, left_of
from withinrim.plants import quotient_of_plant
from withinrim.quotients import quotient_product

ZERO = num(0)
TOO_MANY = ((ONE,) * 41, None), ((ZERO,) * 41, None), ((None,) * 41, None), ((ONE,) * 100, None)
WRONG_LOTS = WRONG_NUMBER_TUPLES + TOO_MANY + (((ONE,) * 39 + (None,), 39), ((ONE,) * 12 + ((1, 1),) * 12, 12))


def some_disturbances(source, many):
    return tuple(some_pair(source, 3, 3).number() for _ in range(many))


def series_of(top, under, many):
    """So many first coefficients of TOP over UNDER, whose first NUMBER is not nought, as Pairs."""
    found = []
    for at in range(many):
        total = pair(top[at]) if at < len(top) else Pair(0)
        for k in range(1, min(at + 1, len(under))):
            total = total - pair(under[k]) * found[at - k]
        found.append(total / pair(under[0]))
    return found


def in_series(series, disturbances):
    """The first coefficients of a series times the disturbances as a row."""
    found = []
    for at in range(len(disturbances)):
        total = Pair(0)
        for k in range(at + 1):
            total = total + series[at - k] * pair(disturbances[k])
        found.append(total.number())
    return found


def energies(numbers):
    """The energy of the first ones, from none to all."""
    found = [Fraction(0)]
    for each in numbers:
        found.append(found[-1] + pair(each).size())
    return found


def loop_cases(seed):
    """Processes and controllers, steadied and not."""
    for plant in list(plant_cases(seed))[::3]:
        yield quotient_of_plant(plant), some_controller(plant, "left", least_above(plant, "left"))
    yield from some_pairs_of_loops(seed + 1, 12)


class BeatsTest(unittest.TestCase):
    def test_by_hand(self):
        self.assertEqual(beats(P, BACK, (ONE, ZERO, ZERO)), ((ONE, ONE), (num(-2), num(-2)), (ZERO, ZERO)))
        self.assertEqual(beats(process=P, controller=IDLE, disturbances=(ONE,)), ((ONE, ZERO),))
        self.assertEqual(beats(P, IDLE, ()), ())
        # z alone, k = - z: what comes out is that of 1 / (1 - z z).
        self.assertEqual(beats((row(0, 1), row(1)), (row(0, -1), row(1)), (ONE,) + (ZERO,) * 4),
                         ((ONE, ZERO), (ZERO, ONE), (ONE, ZERO), (ZERO, ONE), (ONE, ZERO)))

    def test_beat_by_beat(self):
        # With p = 2 z / (1 - z) and k = 1 / (1 - 2 z): w_n = 2 u_(n-1) + w_(n-1), u_n = - y_n + 2 u_(n-1).
        source = random.Random(241)
        disturbances = some_disturbances(source, 9)
        expected, w, u = [], Pair(0), Pair(0)
        for each in disturbances:
            w = Pair(2) * u + w
            y = pair(each) + w
            u = Pair(2) * u - y
            expected.append((y.number(), u.number()))
        self.assertEqual(beats((row(0, 2), row(1, -1)), (row(1), row(1, -2)), disturbances), tuple(expected))

    def test_series(self):
        source = random.Random(242)
        words = []
        for process, controller in loop_cases(243):
            kept, _, both = own_loop(process, controller)
            done = quotient_product(controller, left_of(process, controller))
            for many in (1, 2, 7, 12):
                disturbances = some_disturbances(source, many)
                found = beats(process, controller, disturbances)
                self.assertIs(type(found), tuple)
                self.assertEqual([y for y, _ in found], in_series(series_of(kept, both, many), disturbances))
                turned = [Pair(0) - each for each in series_of(*done, many)]
                self.assertEqual([u for _, u in found], in_series(turned, disturbances))
            words.append(is_steadied(process, controller))
        self.assertGreater(min(words.count(True), words.count(False)), 5)

    def test_forty(self):
        source = random.Random(244)
        disturbances = tuple(num(source.randint(-9, 9)) for _ in range(40))
        kept, _, both = own_loop(P, EVEN)
        self.assertEqual([y for y, _ in beats(P, EVEN, disturbances)], in_series(series_of(kept, both, 40), disturbances))

    def test_later_disturbances_change_nothing_ahead(self):
        source = random.Random(245)
        for process, controller in loop_cases(246):
            disturbances = some_disturbances(source, 8)
            found = beats(process, controller, disturbances)
            for many in range(9):
                self.assertEqual(beats(process, controller, disturbances[:many]), found[:many])
                later = disturbances[:many] + some_disturbances(source, 8 - many)
                self.assertEqual(beats(process, controller, later)[:many], found[:many])

    def test_what_is_put_out(self):
        # What the process puts out is what comes out less the disturbance: - T times the disturbances.
        source = random.Random(247)
        for process, controller in loop_cases(248):
            disturbances = some_disturbances(source, 6)
            echo = [Pair(0) - each for each in series_of(*echo_of(process, controller), 6)]
            found = [(pair(y) - pair(each)).number() for (y, _), each in zip(beats(process, controller, disturbances), disturbances)]
            self.assertEqual(found, in_series(echo, disturbances))


class EnergyTest(unittest.TestCase):
    def test_by_hand(self):
        self.assertEqual([energy((ONE, num(-2))), energy(numbers=()), energy((num(3, 4), HALF)), energy((ONE,) * 40)], [(5, 1), (0, 1), (101, 4), (40, 1)])

    def test_sums(self):
        source = random.Random(249)
        for many in range(41):
            numbers = some_disturbances(source, many)
            self.assertEqual(energy(numbers), told(energies(numbers)[-1]))

    def test_a_bound_that_is_kept(self):
        source = random.Random(250)
        for plant in list(plant_cases(251))[::2]:
            process = quotient_of_plant(plant)
            for kind in ("left", "echo"):
                bound = least_above(plant, kind)
                controller = some_controller(plant, kind, bound)
                self.assertIs(keeps(plant, controller, kind, bound), True)
                for disturbances in (some_disturbances(source, 10), (ONE,) + (ZERO,) * 9, (ZERO, ONE, num(0, 1)) * 3, (num(1), num(-1)) * 5):
                    out = [y for y, _ in beats(process, controller, disturbances)]
                    if kind == "echo":
                        out = [(pair(y) - pair(each)).number() for y, each in zip(out, disturbances)]
                    for one, two in zip(energies(out), energies(disturbances)):
                        self.assertLessEqual(one, frac(bound) * two)

    def test_a_bound_that_is_not_kept(self):
        # 1, x', x' x', .. at a place x where Q is above the bound comes out with more, in many beats.
        controller = BACK
        for bound in ((4, 1), (6, 1), (8, 1)):
            self.assertIs(is_up_to(left_of(P, controller), bound), False)
            x = pair(above_at(left_of(P, controller), bound)[1])
            self.assertGreater(quotient_at(left_of(P, controller), x).size(), frac(bound))
            disturbances, power = [], Pair(1)
            for _ in range(39):
                disturbances.append(power.number())
                power = power * x.mirrored()
            out = [y for y, _ in beats(P, controller, tuple(disturbances) + (ZERO,))]
            self.assertGreater(energies(out)[-1], frac(bound) * energies(disturbances)[-1])


class RefusalTest(unittest.TestCase):
    def test_wrong_arguments(self):
        check_refusals(self, beats, (("process", given(InvalidQuotient, WRONG_PROCESSES), P), ("controller", given(InvalidQuotient, WRONG_QUOTIENTS), BACK),
                                     ("disturbances", indexed(InvalidNumbers, WRONG_LOTS), (ONE, HALF))))
        check_refusals(self, energy, (("numbers", indexed(InvalidNumbers, WRONG_LOTS), (ONE,)),))

    def test_the_process_nought(self):
        source = random.Random(252)
        disturbances = some_disturbances(source, 5)
        self.assertEqual([y for y, _ in beats(IDLE, BACK, disturbances)], list(disturbances))
        self.assertEqual(beats(quotient_of_plant(SURE), BACK, disturbances), beats(P, BACK, disturbances))


if __name__ == "__main__":
    unittest.main()
