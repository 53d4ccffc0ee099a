"""withinrim.loops: loop rows, what is left and echoed, the controllers of a plant, and blended ones."""

import random
import unittest
from fractions import Fraction

from tests.support import (
    HALF, ONE, REST, START, SURE, UNIT, WRONG_NUMBERS, WRONG_PLANTS, WRONG_PROCESSES, WRONG_QUOTIENTS,
    Pair, check_refusals, cut, frac, from_roots, given, indexed, made_quotient, mirrored_row_of, num, own_data_of,
    own_loop, pair, plant_cases, quotient_at, refused, rim, row, some_pair, some_places, times_rows, told, value_of,
)
from withinrim.answers import answer, some_answer
from withinrim.bounds import keeps, loop_pencil, some_controller
from withinrim.data import does_have
from withinrim.errors import InvalidNumber, InvalidPlant, InvalidQuotient, NotNow
from withinrim.helds import above_at, is_up_to
from withinrim.loops import blended, controller_of, echo_of, is_steadied, left_of, loop_row
from withinrim.pencils import least_floor
from withinrim.plants import mirrored_plant, quotient_of_plant
from withinrim.quotients import is_quotient, quotient_less, quotient_of, quotient_product, quotient_sum, quotient_value
from withinrim.rootcounts import root_counts

ZERO = num(0)
P = quotient_of_plant(SURE)
EVEN, BACK, IDLE = (row(Fraction(-3, 4)), row(1)), (row(-1), row(1)), ((), row(1))


def some_process(source):
    """Any process of a degree up to 3, and any controller."""
    roots = some_places(source, source.randint(0, 2), (1, 2, 3), 9)
    top = times_rows(from_roots(roots, some_pair(source, 5, 3) + Pair(7)), row(0, 1))
    return made_quotient(top, from_roots([each for each in some_places(source, source.randint(0, 3), (2, 3, 5), 9)
                                          if each != Pair(0) and not any(each == other for other in roots)]))


def some_pairs_of_loops(seed, many=60):
    source = random.Random(seed)
    for _ in range(many):
        process = some_process(source)
        top = cut(some_pair(source, 4, 3) for _ in range(source.randint(0, 3)))
        under = cut([Pair(1)] + [some_pair(source, 2, 3) for _ in range(source.randint(0, 2))])
        yield process, quotient_of(top, under)


def least_above(plant, kind):
    """A whole bound above the least one of a loop."""
    return (least_floor(loop_pencil(plant, kind), 1) + 1, 1)


def steadied_cases(seed, kind="left"):
    """Plants with controllers that steady their loops."""
    source = random.Random(seed)
    for plant in plant_cases(seed):
        bound = least_above(plant, kind)
        yield plant, some_controller(plant, kind, (bound[0] + source.randint(0, 3), 1))


def full_row(plant, but=None):
    """The product of all z - PLACE, each TIMES times, but once less for the pair of an index."""
    pairs = plant[0] + plant[1]
    return from_roots([place for at, (place, many) in enumerate(pairs) for _ in range(many - (1 if at == but else 0))])


def added(quotient, top, under):
    """A QUOTIENT and TOP over UNDER together."""
    return quotient_sum(quotient, quotient_of(top, under))


class LoopTest(unittest.TestCase):
    def test_by_hand(self):
        self.assertEqual(loop_row(P, EVEN), row(1, Fraction(-1, 2)))
        self.assertEqual(loop_row(process=P, controller=IDLE), row(1, -2))
        self.assertEqual([is_steadied(P, EVEN), is_steadied(P, IDLE), is_steadied(process=P, controller=BACK)], [True, False, True])
        self.assertEqual(left_of(P, EVEN), (row(1, -2), row(1, Fraction(-1, 2))))
        self.assertEqual(echo_of(P, BACK), (row(0, 2), row(1)))
        self.assertEqual([left_of(process=P, controller=IDLE), echo_of(process=P, controller=IDLE)], [(row(1), row(1)), IDLE])

    def test_nothing_to_steady(self):
        for process in (IDLE, (row(0, 0, 5), row(1)), (row(0, 1), row(1, Fraction(1, 2)))):
            self.assertIs(is_steadied(process, IDLE), True)
            self.assertEqual(left_of(process, IDLE), (row(1), row(1)))
        # A controller with roots of UNDER in the disc has a loop that is not steadied, though the process is 0.
        self.assertIs(is_steadied(IDLE, (row(1), row(1, -3))), False)
        self.assertIs(is_steadied(IDLE, (row(1), row(1, -1))), False)
        self.assertEqual(left_of(IDLE, (row(1), row(1, -3))), (row(1), row(1)))

    def test_rows(self):
        for process, controller in some_pairs_of_loops(201):
            kept, echoed, both = own_loop(process, controller)
            self.assertEqual(loop_row(process, controller), both)
            self.assertEqual(both[0], ONE)
            within, on_rim, _ = root_counts(both)
            self.assertIs(is_steadied(process, controller), within + on_rim == 0)
            left, echo = left_of(process, controller), echo_of(process, controller)
            self.assertEqual(left, quotient_of(kept, both))
            self.assertEqual(echo, quotient_of(echoed, both))
            self.assertEqual(quotient_sum(left, echo), (row(1), row(1)))

    def test_roots_on_the_rim(self):
        # The loop row 1 - (2 + 2 c) z has the root 1 / (2 + 2 c).
        tiny = Fraction(1, 10 ** 20)
        for c, expected in ((Fraction(-1, 2), False), (Fraction(-3, 2), False), (Fraction(-1, 2) - tiny, True), (Fraction(-3, 2) + tiny, True),
                            (Fraction(-1, 2) + tiny, False), (-1, True), (-2, False), (Fraction(-1, 4), False)):
            self.assertIs(is_steadied(P, (row(c), row(1))), expected, c)
        for x in (Fraction(3, 4), Fraction(-5, 2)):
            turned = (rim(x) - Pair(2)) * Pair(Fraction(1, 2))
            self.assertIs(is_steadied(P, (row(turned), row(1))), False)
            self.assertIs(is_steadied(P, (row(turned * Pair(Fraction(3, 4)) + Pair(Fraction(-1, 4))), row(1))), True)

    def test_steadied_by_the_roots_below(self):
        # [E2]: exactly if Q, k Q and p Q have no root of UNDER in the closed disc.
        words = []
        cases = [case for case in some_pairs_of_loops(202, 40)]
        cases += [(quotient_of_plant(plant), controller) for plant, controller in steadied_cases(203)]
        for process, controller in cases:
            left = left_of(process, controller)
            below = [left[1], quotient_product(controller, left)[1], quotient_product(process, left)[1]]
            steadied = all(sum(root_counts(each)[:2]) == 0 for each in below)
            self.assertIs(is_steadied(process, controller), steadied)
            words.append(steadied)
        self.assertGreater(min(words.count(True), words.count(False)), 10)

    def test_hidden_roots(self):
        # The pole 1 / 2 of the process, met by a root of the controller: Q shows nothing of it.
        hidden = (row(1, -2), row(1))
        self.assertEqual(loop_row(P, hidden), times_rows(row(1, -2), row(1, -2)))
        self.assertIs(is_steadied(P, hidden), False)
        self.assertEqual(left_of(P, hidden), (row(1), row(1, -2)))
        # A root 1 / 3 of the process below and of UNDER of the controller: Q is 1 over 1 + z, and p Q neither.
        process = (row(0, 1, -3), row(1))
        controller = (row(1), row(1, -3))
        self.assertIs(is_steadied(process, controller), False)
        self.assertEqual(left_of(process, controller), (row(1), row(1, 1)))


class ControllerTest(unittest.TestCase):
    def test_by_hand(self):
        self.assertEqual(controller_of(SURE, (row(1, -2), row(1))), BACK)
        self.assertEqual(controller_of(plant=SURE, quotient=(row(1, -2), row(1, Fraction(-1, 2)))), EVEN)
        for quotient in ((row(1), row(1)), ((), row(1)), (row(1, -1), row(1)), (row(1, -2), row(1, -1)), (row(1, -2), row(1, -3)), (row(2, -4), row(1)),
                         (row(1, -2), row(1, 0, 1)), (row(0, 1, -2), row(1)), (row(1), row(1, -2)), (row(1, 2), row(1))):
            self.assertIs(is_quotient(quotient), True)
            self.assertIsNone(controller_of(SURE, quotient), quotient)
        self.assertEqual(controller_of((START, (), UNIT), (row(1), row(1))), IDLE)
        self.assertEqual(controller_of((START, (), REST), (row(1), row(1))), IDLE)
        self.assertIsNone(controller_of((START, (), REST), (row(2), row(1))))

    def test_there_and_back(self):
        for kind in ("left", "echo"):
            for plant, controller in steadied_cases(204, kind):
                process = quotient_of_plant(plant)
                self.assertIs(is_quotient(controller), True)
                self.assertIs(is_steadied(process, controller), True)
                left = left_of(process, controller)
                self.assertIs(does_have(own_data_of(plant, "left"), left), True)
                self.assertIs(does_have(own_data_of(plant, "echo"), echo_of(process, controller)), True)
                self.assertEqual(controller_of(plant, left), controller)

    def test_all_that_is_left(self):
        # What has the told coefficients and no root below in the closed disc is what one controller leaves.
        source = random.Random(205)
        for plant in plant_cases(206):
            process, data = quotient_of_plant(plant), own_data_of(plant, "left")
            bound = least_above(plant, "left")
            for s in ((row(Fraction(1, 2)), row(1)), (row(0, Pair(0, Fraction(1, 3))), row(1, Fraction(1, 4)))):
                left = answer(data, s, bound)
                more = added(left, times_rows(full_row(plant), (some_pair(source).number(), num(1, 5))), row(1, Pair(Fraction(1, 2), Fraction(-1, 2))))
                for each in (left, more):
                    controller = controller_of(plant, each)
                    self.assertIs(is_quotient(controller), True)
                    self.assertEqual(left_of(process, controller), each)
                    self.assertIs(is_steadied(process, controller), True)

    def test_none_is_left_by_others(self):
        for plant in plant_cases(207):
            left = some_answer(own_data_of(plant, "left"), least_above(plant, "left"))
            for under in (row(1, -2), row(1, -1), row(1, 0, 1), row(1, Pair(1, 2)), row(1, Pair(Fraction(3, 5), Fraction(-4, 5)))):
                if any(value_of(under, pair(place)) == Pair(0) for place, _ in plant[0] + plant[1]):
                    continue
                other = added(left, full_row(plant), under)
                self.assertIs(does_have(own_data_of(plant, "left"), other), True)
                self.assertIsNone(controller_of(plant, other))
            for at in range(len(plant[0] + plant[1])):
                # A root too few at a pole, a value too few at a zero.
                other = added(left, full_row(plant, at), row(1))
                self.assertIs(does_have(own_data_of(plant, "left"), other), False)
                self.assertIsNone(controller_of(plant, other))

    def test_rest_has_no_bearing(self):
        other = (SURE[0], SURE[1], REST)
        for left in ((row(1, -2), row(1)), (row(1, -2), row(1, Fraction(-1, 2))), times_one_more((row(1, -2), row(1)))):
            one, two = controller_of(SURE, left), controller_of(other, left)
            self.assertEqual(quotient_product(two, REST), one)
            self.assertEqual(left_of(quotient_of_plant(other), two), left)


def times_one_more(quotient):
    return (times_rows(quotient[0], row(1, 0, Fraction(1, 3))), quotient[1])


class BlendedTest(unittest.TestCase):
    def test_by_hand(self):
        self.assertEqual(blended(SURE, EVEN, BACK, ONE), BACK)
        self.assertEqual(blended(SURE, EVEN, BACK, ZERO), EVEN)
        self.assertEqual(blended(plant=SURE, controller=BACK, other_controller=BACK, number=num(5, 7)), BACK)

    def test_what_is_left(self):
        source = random.Random(208)
        for plant, controller in steadied_cases(209):
            process = quotient_of_plant(plant)
            other = some_controller(plant, "echo", (least_above(plant, "echo")[0] + 1, 1))
            one, two = left_of(process, controller), left_of(process, other)
            for number in (num(Fraction(1, 2)), num(-3, 2), num(Fraction(7, 5))):
                found = blended(plant, controller, other, number)
                self.assertIs(is_steadied(process, found), True)
                left, x = left_of(process, found), pair(number)
                for at in some_places(source, 3, (7, 11)):
                    if quotient_value(one, at.number()) is not None:
                        self.assertEqual(quotient_at(left, at), (Pair(1) - x) * quotient_at(one, at) + x * quotient_at(two, at))
            self.assertEqual(blended(plant, controller, other, ONE), other)
            self.assertEqual(blended(plant, controller, other, ZERO), controller)
            self.assertEqual(blended(plant, other, controller, num(Fraction(1, 3))), blended(plant, controller, other, num(Fraction(2, 3))))

    def test_not_now(self):
        for one, two in ((IDLE, BACK), (BACK, IDLE), (IDLE, IDLE), ((row(Fraction(-1, 2)), row(1)), BACK), (BACK, (row(1, -2), row(1)))):
            for number in (ZERO, ONE, HALF):
                refused(self, NotNow, None, None, blended, SURE, one, two, number)


class UnsureTest(unittest.TestCase):
    """[E6]: plants that are not sure."""

    def loops(self, seed):
        for plant, controller in steadied_cases(seed, "echo"):
            if plant[1]:
                yield plant, controller, quotient_of_plant(plant)

    def test_what_keeps_the_echo_steadies(self):
        many = 0
        for plant, controller, process in self.loops(211):
            bound = least_above(plant, "echo")
            while not keeps(plant, controller, "echo", bound):
                bound = (bound[0] + 1, 1)
            size = Fraction(9, 10 * bound[0])
            root = Fraction(1)
            while root * root > size:
                root *= Fraction(9, 10)
            for e in ((row(root), row(1)), (row(Pair(0, -root)), row(1)), (row(0, root), row(1)), (row(Pair(0, root / 3), root / 3), row(1, Fraction(1, 5)))):
                self.assertIs(is_up_to(e, told(size)), True)
                whole = quotient_product(process, quotient_sum((row(1), row(1)), e))
                self.assertIs(is_steadied(whole, controller), True)
                many += 1
        self.assertGreater(many, 20)

    def test_what_does_not_keep_it_fails_for_some(self):
        many = 0
        for plant, controller, process in self.loops(212):
            echo = echo_of(process, controller)
            for bound in ((1, 1), (11, 10)):
                shown = above_at(echo, bound)
                if shown is None:
                    continue
                value = pair(quotient_value(echo, shown[1]))
                e = (Pair(-1) / value).number()
                self.assertLess(pair(e).size(), 1 / frac(bound))
                whole = quotient_product(process, quotient_sum((row(1), row(1)), ((e,), row(1))))
                self.assertIs(is_steadied(whole, controller), False)
                many += 1
        self.assertGreater(many, 10)


class MirroredTest(unittest.TestCase):
    def test_mirrored_loops(self):
        for plant, controller in steadied_cases(213):
            other = tuple(mirrored_row_of(each) for each in controller)
            process, back = quotient_of_plant(plant), quotient_of_plant(mirrored_plant(plant))
            self.assertEqual(left_of(back, other), tuple(mirrored_row_of(each) for each in left_of(process, controller)))
            self.assertIs(is_steadied(back, other), True)
            self.assertEqual(controller_of(mirrored_plant(plant), left_of(back, other)), other)
            self.assertEqual(quotient_less((row(1), row(1)), left_of(back, other)), echo_of(back, other))


class RefusalTest(unittest.TestCase):
    def test_wrong_arguments(self):
        process = ("process", given(InvalidQuotient, WRONG_PROCESSES), P)
        controller = ("controller", given(InvalidQuotient, WRONG_QUOTIENTS), BACK)
        plant = ("plant", indexed(InvalidPlant, WRONG_PLANTS), SURE)
        for call in (loop_row, is_steadied, left_of, echo_of):
            check_refusals(self, call, (process, controller))
        check_refusals(self, controller_of, (plant, ("quotient", given(InvalidQuotient, WRONG_QUOTIENTS), (row(1, -2), row(1)))))
        check_refusals(self, blended, (plant, controller, ("other_controller", given(InvalidQuotient, WRONG_QUOTIENTS), EVEN),
                                       ("number", given(InvalidNumber, WRONG_NUMBERS), HALF)))

    def test_not_now_is_last(self):
        for value in WRONG_NUMBERS:
            refused(self, InvalidNumber, "given", value, blended, SURE, IDLE, IDLE, value)


if __name__ == "__main__":
    unittest.main()
