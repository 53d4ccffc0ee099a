"""withinrim.bounds: the DATA of loops, their least bounds, and the controllers that keep a bound."""

import random
import unittest
from fractions import Fraction

from tests.support import (
    CORNER, HALF, LATER, LESS, ONE, REST, START, SURE, UNIT, WRONG_BOUNDS, WRONG_KINDS, WRONG_PLANTS, WRONG_QUOTIENTS,
    Pair, check_bound_left_out, check_refusals, frac, given, indexed, made_quotient, mirrored_row_of, num, own_data_of,
    own_table, pair, plant_cases, product_of_sizes, quotient_at, refused, row, some_places, told,
)
from withinrim.answers import answer
from withinrim.bounds import (
    controller_by, keeps, loop_data, loop_pencil, loop_standing, real_controller, some_controller, told_back_controller,
)
from withinrim.data import table_of
from withinrim.errors import InvalidFraction, InvalidPlant, InvalidQuotient, InvalidWord, NotNow
from withinrim.helds import is_up_to
from withinrim.loops import controller_of, echo_of, is_steadied, left_of
from withinrim.moves import bound_pencil
from withinrim.pencils import compare_leasts, is_pencil, least_floor, least_fraction, row_of, side_of_least
from withinrim.plants import is_plant, is_real_plant, mirrored_plant, quotient_of_plant
from withinrim.quotients import is_quotient, mirrored_quotient
from withinrim.squares import is_nonnegative

ZERO = num(0)
KINDS = ("left", "echo")
EVEN, BACK, IDLE = (row(Fraction(-3, 4)), row(1)), (row(-1), row(1)), ((), row(1))
UP, DOWN = num(Fraction(1, 3), Fraction(1, 4)), num(Fraction(1, 3), Fraction(-1, 4))
REAL_PLANTS = (
    SURE, (START, (), UNIT), (START, ((UP, 1), (DOWN, 1)), UNIT), (((UP, 1), (ZERO, 2), (DOWN, 1)), ((HALF, 2),), UNIT),
    (((ZERO, 1),), ((UP, 2), (DOWN, 2)), (row(5, 1, 1), row(1, Fraction(1, 2)))), (((HALF, 1), (ZERO, 1)), ((LESS, 1), (UP, 1), (DOWN, 1)), UNIT),
    (((ZERO, 3),), ((HALF, 3),), (row(1), row(1, Fraction(-2, 3)))), (((UP, 1), (DOWN, 1), (ZERO, 1)), (), UNIT),
)


def bounds_about(pencil):
    """Bounds below the least of a pencil, it itself where it is a fraction above 0, and above it."""
    exact = least_fraction(pencil)
    if exact is not None and exact[0] > 0:
        yield told(frac(exact) * Fraction(99, 100)), "none"
        yield exact, "one"
        yield told(frac(exact) + Fraction(1, 10 ** 9)), "many"
    else:
        floor = least_floor(pencil, 1000)
        if floor > 0:
            yield told(Fraction(floor, 1000)), "none"
        yield told(Fraction(floor + 1, 1000)), "many"
    yield told(Fraction(least_floor(pencil, 1) + 3)), "many"


def frees_for(bound):
    """QUOTIENTs up to a bound, a Fraction."""
    small = min(bound, Fraction(1))
    return [IDLE, (row(small * Fraction(1, 2)), row(1)), (row(Pair(0, small / 3)), row(1)),
            made_quotient(row(small / 5, Pair(0, small / 4)), row(2, Fraction(1, 2)))]


class DataTest(unittest.TestCase):
    def test_by_hand(self):
        self.assertEqual(loop_data(SURE, "echo"), ((ZERO, (ZERO,)), (HALF, (ONE,))))
        self.assertEqual(loop_data(plant=(((HALF, 2), (ZERO, 1)), ((LESS, 3),), UNIT), kind="left"),
                         ((HALF, (ONE, ZERO)), (ZERO, (ONE,)), (LESS, (ZERO, ZERO, ZERO))))
        self.assertEqual(loop_data((((HALF, 2), (ZERO, 1)), ((LESS, 3),), UNIT), "echo"),
                         ((HALF, (ZERO, ZERO)), (ZERO, (ZERO,)), (LESS, (ONE, ZERO, ZERO))))
        self.assertEqual([least_fraction(loop_pencil(SURE, "left")), least_fraction(loop_pencil(plant=SURE, kind="echo")), least_fraction(loop_pencil(LATER, "left"))],
                         [(4, 1), (4, 1), (2, 1)])

    def test_data_and_pencils(self):
        for plant in plant_cases(221):
            for kind in KINDS:
                data = loop_data(plant, kind)
                self.assertEqual(data, own_data_of(plant, kind))
                pencil = loop_pencil(plant, kind)
                self.assertIs(is_pencil(pencil), True)
                self.assertEqual(pencil, bound_pencil(data))
                # R has the elements of S where both indexes are those of ZEROS, or of POLES.
                owners = [at for at, pairs in enumerate(plant[:2]) for _, many in pairs for _ in range(many)]
                mine = 0 if kind == "left" else 1
                expected = tuple(tuple(each if owners[i] == owners[j] == mine else ZERO for j, each in enumerate(line))
                                 for i, line in enumerate(pencil[0]))
                self.assertEqual(pencil[1], expected)
                self.assertEqual(table_of(data, (7, 2)), own_table(data, Fraction(7, 2)))


class LeastTest(unittest.TestCase):
    def test_about_the_least(self):
        words = []
        for plant in plant_cases(222):
            for kind in KINDS:
                for bound, word in bounds_about(loop_pencil(plant, kind)):
                    self.assertEqual(loop_standing(plant, kind, bound), word)
                    self.assertIs(is_nonnegative(table_of(own_data_of(plant, kind), bound)), word != "none")
                    words.append(word)
        self.assertGreater(min(words.count(each) for each in ("none", "one", "many")), 15)

    def test_floors(self):
        for plant in plant_cases(223):
            left, echo = loop_pencil(plant, "left"), loop_pencil(plant, "echo")
            if not plant[1]:
                self.assertEqual(least_fraction(left), (1, 1))
                self.assertEqual(least_fraction(echo), (0, 1))
                self.assertEqual(some_controller(plant, "left"), IDLE)
                for bound in ((1, 10 ** 9), (1, 1), (5, 1)):
                    self.assertIs(keeps(plant, IDLE, "echo", bound), True)
                    self.assertEqual(loop_standing(plant, "echo", bound), "many")
                continue
            for pencil in (left, echo):
                self.assertEqual(side_of_least(pencil, (1, 1)), -1)
            for place, _ in plant[0]:
                self.assertIn(side_of_least(left, told(1 / product_of_sizes(place, plant[1]))), (-1, 0))
            for place, _ in plant[1]:
                self.assertIn(side_of_least(echo, told(1 / product_of_sizes(place, plant[0]))), (-1, 0))

    def test_one_zero_or_one_pole_alone(self):
        source = random.Random(224)
        for counts in ((1,), (2,), (3,), (1, 1), (3, 2), (1, 1, 1, 1, 1)):
            places = [each.number() for each in some_places(source, 7) if each != Pair(0)]
            poles = tuple(zip(places, counts))
            plant = (START, poles, UNIT)
            self.assertEqual(least_fraction(loop_pencil(plant, "left")), told(1 / product_of_sizes(ZERO, poles)))
            zeros = ((ZERO, counts[0]),) + tuple(zip(places[1:], counts[1:]))
            plant = (zeros, ((places[0], 1),), UNIT)
            self.assertEqual(least_fraction(loop_pencil(plant, "echo")), told(1 / product_of_sizes(places[0], zeros)))

    def test_fewer_pairs_and_times(self):
        for plant in plant_cases(225):
            zeros, poles, rest = plant
            fewer = []
            for at, pairs in enumerate((zeros, poles)):
                for k, (place, many) in enumerate(pairs):
                    cut_down = [pairs[:k] + ((place, many - 1),) + pairs[k + 1:]] if many > 1 else []
                    if at == 1 or place != ZERO:
                        cut_down.append(pairs[:k] + pairs[k + 1:])
                    fewer += [(each, poles, rest) if at == 0 else (zeros, each, rest) for each in cut_down]
            for other in fewer:
                self.assertIs(is_plant(other), True)
                for kind in KINDS:
                    self.assertIn(compare_leasts(loop_pencil(other, kind), loop_pencil(plant, kind)), (-1, 0))

    def test_order_and_rest_change_nothing(self):
        for zeros, poles, _ in plant_cases(226):
            other = (zeros[::-1], poles[::-1], REST)
            for kind in KINDS:
                self.assertEqual(row_of(loop_pencil(other, kind)), row_of(loop_pencil((zeros, poles, UNIT), kind)))
                for bound in ((1, 2), (1, 1), (7, 2), (20, 1)):
                    self.assertEqual(loop_standing(other, kind, bound), loop_standing((zeros, poles, UNIT), kind, bound))


class KeepsTest(unittest.TestCase):
    def test_by_hand(self):
        self.assertEqual([keeps(SURE, BACK, "left", (9, 1)), keeps(SURE, BACK, "left", (5, 1)), keeps(SURE, EVEN, "echo", (9, 1)), keeps(SURE, EVEN, "left", (4, 1)),
                          keeps(SURE, EVEN, "left", (399, 100)), keeps(plant=SURE, controller=BACK, kind="echo", bound=(4, 1)), keeps(SURE, BACK, "echo", (39, 10))],
                         [True, False, True, True, False, True, False])
        self.assertIs(keeps(SURE, IDLE, "echo", (1000, 1)), False)
        self.assertIs(keeps(SURE, IDLE, "left", (1000, 1)), False)
        # What is left is 1 over 1 - 2 z, or 1 throughout: the loop with roots that do not show is not steadied.
        self.assertIs(keeps(SURE, (row(1, -2), row(1)), "left", (10 ** 6, 1)), False)
        hidden = (((ZERO, 1), (HALF, 1)), (), UNIT)
        self.assertIs(keeps(hidden, (row(0, 1), row(1, -2)), "echo", (100, 1)), False)

    def test_what_is_left_or_echoed(self):
        for plant in plant_cases(227):
            process = quotient_of_plant(plant)
            for kind in KINDS:
                bound = told(Fraction(least_floor(loop_pencil(plant, kind), 1) + 1))
                controller = some_controller(plant, kind, bound)
                for at in (bound, (1, 2), (1, 1), (3, 1), (50, 1), (10 ** 6, 1)):
                    for word in KINDS:
                        shown = left_of(process, controller) if word == "left" else echo_of(process, controller)
                        self.assertIs(keeps(plant, controller, word, at), is_steadied(process, controller) and is_up_to(shown, at))
                self.assertIs(keeps(plant, controller, kind, bound), True)


class SomeControllerTest(unittest.TestCase):
    def test_by_hand(self):
        self.assertEqual(some_controller(SURE, "left", (4, 1)), EVEN)
        self.assertEqual(some_controller(plant=SURE, kind="echo", bound=(4, 1)), BACK)
        self.assertEqual(some_controller(LATER, "left", (2, 1)), (row(Fraction(-1, 2)), row(1)))
        self.assertIsNone(some_controller(SURE, "left", (3, 1)))
        self.assertEqual([loop_standing(SURE, "left", (k, 1)) for k in (3, 4, 5)], ["none", "one", "many"])

    def test_none_exactly_if_none_keeps_it(self):
        for plant in plant_cases(228):
            for kind in KINDS:
                for bound, word in bounds_about(loop_pencil(plant, kind)):
                    found = some_controller(plant, kind, bound)
                    self.assertIs(found is None, word == "none")
                    if found is not None:
                        self.assertIs(is_quotient(found), True)
                        self.assertIs(keeps(plant, found, kind, bound), True)

    def test_at_the_least_bound_the_one(self):
        many = 0
        for plant in plant_cases(229):
            for kind in KINDS:
                least = least_fraction(loop_pencil(plant, kind))
                if least is None or least == (0, 1):
                    continue
                one = some_controller(plant, kind, least)
                # One that keeps a bound above keeps the least one only if it is this one.
                other = some_controller(plant, kind, told(frac(least) + 1))
                self.assertIs(keeps(plant, other, kind, least), other == one)
                self.assertIs(keeps(plant, one, kind, least), True)
                self.assertIs(keeps(plant, one, kind, told(frac(least) * Fraction(999, 1000))), False)
                many += 1
        self.assertGreater(many, 15)


class RealControllerTest(unittest.TestCase):
    def test_real_plants(self):
        halved = 0
        for plant in REAL_PLANTS:
            self.assertIs(is_real_plant(plant), True)
            for kind in KINDS:
                for bound, word in bounds_about(loop_pencil(plant, kind)):
                    found = real_controller(plant, kind, bound)
                    self.assertIs(found is None, word == "none")
                    if found is None:
                        continue
                    self.assertEqual(mirrored_quotient(found), found)
                    self.assertIs(is_quotient(found), True)
                    self.assertIs(keeps(plant, found, kind, bound), True)
                    if word == "one":
                        self.assertEqual(found, some_controller(plant, kind, bound))
                    halved += some_controller(plant, kind, bound) != found
        # In some of these the answer behind the steps is not real by itself.
        self.assertGreater(halved, 0)

    def test_not_now(self):
        for plant in (LATER, (START, (), REST), (START, ((UP, 2), (DOWN, 1)), UNIT)):
            for kind in KINDS:
                for bound in ((1, 10), (1, 1), (1000, 1)):
                    refused(self, NotNow, None, None, real_controller, plant, kind, bound)


class AnswersTest(unittest.TestCase):
    def test_by_hand(self):
        found = controller_by(SURE, "left", IDLE, (5, 1))
        self.assertEqual(found, (row(Fraction(-4, 5)), row(1)))
        self.assertEqual(told_back_controller(SURE, "left", found, (5, 1)), IDLE)
        self.assertIsNone(told_back_controller(plant=SURE, kind="left", controller=BACK, bound=(5, 1)))
        self.assertEqual(controller_by(plant=SURE, kind="left", quotient=IDLE, bound=(5, 1)), found)

    def test_there_and_back(self):
        for plant in plant_cases(230):
            process = quotient_of_plant(plant)
            for kind in KINDS:
                bound = told(Fraction(least_floor(loop_pencil(plant, kind), 1)) + Fraction(5, 3))
                seen = []
                for s in frees_for(frac(bound)):
                    found = controller_by(plant, kind, s, bound)
                    shown = left_of(process, found) if kind == "left" else echo_of(process, found)
                    self.assertEqual(shown, answer(loop_data(plant, kind), s, bound))
                    self.assertIs(keeps(plant, found, kind, bound), True)
                    self.assertEqual(told_back_controller(plant, kind, found, bound), s)
                    self.assertNotIn(found, seen)
                    seen.append(found)

    def test_other_ones_are_told_back(self):
        for plant in plant_cases(231):
            for kind, other in (KINDS, KINDS[::-1]):
                bound = told(Fraction(least_floor(loop_pencil(plant, kind), 1) + 1))
                controller = some_controller(plant, other, told(Fraction(least_floor(loop_pencil(plant, other), 1) + 2)))
                for wide in (bound, (30, 1), (10 ** 4, 1)):
                    if loop_standing(plant, kind, wide) != "many":
                        continue
                    s = told_back_controller(plant, kind, controller, wide)
                    self.assertIs(s is not None, keeps(plant, controller, kind, wide))
                    if s is not None:
                        self.assertIs(is_up_to(s, wide), True)
                        self.assertEqual(controller_by(plant, kind, s, wide), controller)

    def test_none_for_one_that_does_not_keep_it(self):
        for controller in (IDLE, (row(1, -2), row(1)), (row(Fraction(-1, 2)), row(1)), (row(5), row(1)), (row(1), row(1, -3)), BACK):
            self.assertIsNone(told_back_controller(SURE, "left", controller, (5, 1)))
        self.assertIsNotNone(told_back_controller(SURE, "left", BACK, (9, 1)))
        # T is up to 1 / 4 here, but the root 1 / 2 of the plant is hidden in the loop.
        hidden = (((ZERO, 1), (HALF, 1)), (), UNIT)
        controller = (row(0, Fraction(1, 8)), row(1, -2))
        self.assertIs(is_steadied(quotient_of_plant(hidden), controller), False)
        self.assertIs(is_up_to(echo_of(quotient_of_plant(hidden), controller), (1, 4)), True)
        self.assertIsNone(told_back_controller(hidden, "echo", controller, (1, 4)))

    def test_not_now(self):
        for bound in ((3, 1), (4, 1)):
            refused(self, NotNow, None, None, controller_by, SURE, "left", IDLE, bound)
            refused(self, NotNow, None, None, told_back_controller, SURE, "left", BACK, bound)
            refused(self, NotNow, None, None, told_back_controller, SURE, "left", EVEN, bound)
        for s in ((row(3), row(1)), (row(1), row(1, -1)), (row(1), row(1, -2)), (row(0, Fraction(9, 4)), row(1))):
            refused(self, NotNow, None, None, controller_by, SURE, "left", s, (5, 1))
        self.assertIsNotNone(controller_by(SURE, "left", (row(0, Fraction(11, 5)), row(1)), (5, 1)))

    def test_mirrored(self):
        for plant in plant_cases(232):
            for kind in KINDS:
                bound = told(Fraction(least_floor(loop_pencil(plant, kind), 1)) + Fraction(3, 2))
                other = mirrored_plant(plant)
                self.assertEqual(row_of(loop_pencil(other, kind)), row_of(loop_pencil(plant, kind)))
                for s in frees_for(frac(bound)):
                    found = controller_by(plant, kind, s, bound)
                    back = tuple(mirrored_row_of(each) for each in s)
                    self.assertEqual(controller_by(other, kind, back, bound), mirrored_quotient(found))
                    self.assertIs(keeps(other, mirrored_quotient(found), kind, bound), True)


class SizesTest(unittest.TestCase):
    def test_sizes_in_the_disc(self):
        source = random.Random(233)
        for plant in plant_cases(234):
            for kind in KINDS:
                bound = told(Fraction(least_floor(loop_pencil(plant, kind), 1) + 1))
                controller = some_controller(plant, kind, bound)
                process = quotient_of_plant(plant)
                shown = left_of(process, controller) if kind == "left" else echo_of(process, controller)
                for at in some_places(source, 4, (5, 7)):
                    self.assertLessEqual(quotient_at(shown, at).size(), frac(bound))
                self.assertEqual(controller_of(plant, left_of(process, controller)), controller)
                for place, _ in plant[0]:
                    self.assertEqual(quotient_at(left_of(process, controller), pair(place)), Pair(1))


def check_bound_left_out_of_keeps(case, plant, controller, kind):
    """The bound, left out, is (1, 1), which this controller just keeps."""
    case.assertIs(keeps(plant, controller, kind), True)
    case.assertIs(keeps(plant, controller, kind, (1, 1)), True)
    case.assertIs(keeps(plant, controller, kind, (99, 100)), False)


class RefusalTest(unittest.TestCase):
    def test_wrong_arguments(self):
        plant = ("plant", indexed(InvalidPlant, WRONG_PLANTS), SURE)
        kind = ("kind", given(InvalidWord, WRONG_KINDS), "left")
        controller = ("controller", given(InvalidQuotient, WRONG_QUOTIENTS), BACK)
        bound = ("bound", given(InvalidFraction, WRONG_BOUNDS), (5, 1))
        for call in (loop_data, loop_pencil):
            check_refusals(self, call, (plant, kind))
        for call in (loop_standing, some_controller, real_controller):
            check_refusals(self, call, (plant, kind, bound))
        check_refusals(self, keeps, (plant, controller, kind, bound))
        check_refusals(self, controller_by, (plant, kind, ("quotient", given(InvalidQuotient, WRONG_QUOTIENTS), IDLE), bound))
        check_refusals(self, told_back_controller, (plant, kind, controller, bound))

    def test_not_now_is_last(self):
        for value in WRONG_BOUNDS:
            refused(self, InvalidFraction, "given", value, real_controller, LATER, "left", value)
            refused(self, InvalidFraction, "given", value, controller_by, SURE, "left", (row(1), row(1, -3)), value)
        for value in WRONG_QUOTIENTS:
            refused(self, InvalidQuotient, "given", value, controller_by, SURE, "left", value, (1, 1))
            refused(self, InvalidQuotient, "given", value, told_back_controller, SURE, "left", value, (1, 1))
        for value in WRONG_KINDS:
            refused(self, InvalidWord, "given", value, real_controller, LATER, value)

    def test_left_out_the_bound_is_one(self):
        free = (START, (), UNIT)
        check_bound_left_out(self, loop_standing, free, "left")
        self.assertEqual([loop_standing(free, "left"), loop_standing(SURE, "left"), loop_standing(free, "echo")], ["one", "none", "many"])
        self.assertEqual([some_controller(free, "left"), real_controller(free, "left"), some_controller(SURE, "echo")], [IDLE, IDLE, None])
        # The least bound is 100 / 81 here, so there is a controller for 2.
        near = (START, ((num(Fraction(9, 10)), 1),), UNIT)
        for call in (some_controller, real_controller):
            self.assertEqual(call(free, "left", (1, 1)), call(free, "left"))
            self.assertIsNone(call(near, "left"))
            self.assertIsNotNone(call(near, "left", (2, 1)))
        self.assertIsNone(some_controller(free, "left", (99, 100)))
        half = (row(Fraction(1, 2)), row(1))
        # With the controller 1 / 2 the echo is z / 2 over 1 + z / 2, 1 in size at - 1.
        for kind, controller in (("echo", half), ("left", IDLE)):
            check_bound_left_out_of_keeps(self, free, controller, kind)
        self.assertIs(keeps(free, (row(Fraction(51, 100)), row(1)), "echo"), False)
        for s in (IDLE, (row(Fraction(9, 10)), row(1))):
            found = controller_by(free, "echo", s)
            self.assertEqual(found, controller_by(free, "echo", s, (1, 1)))
            self.assertEqual(told_back_controller(free, "echo", found), s)
        refused(self, NotNow, None, None, controller_by, free, "echo", (row(Fraction(11, 10)), row(1)))
        refused(self, NotNow, None, None, controller_by, free, "left", IDLE)
        refused(self, NotNow, None, None, told_back_controller, free, "left", IDLE)
        self.assertIsNotNone(controller_by(free, "left", IDLE, (2, 1)))
        self.assertEqual(keeps((START, ((CORNER, 1),), UNIT), IDLE, "left"), False)


if __name__ == "__main__":
    unittest.main()
