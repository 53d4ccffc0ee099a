"""QUOTIENTs: told, reduced, reckoned, their values and coefficients."""

import random
import unittest
from fractions import Fraction

from tests.support import (
    BOOLS, ONE, STRANGE, WRONG_NUMBERS, WRONG_QUOTIENTS, WRONG_ROWS, WRONG_WHOLES, Pair, check_refusals, cut, from_roots,
    given, made_quotient, num, pair, quotient_at, reduced_number, refused, rim, row, some_pair, some_row, times_rows,
    value_of,
)
from withinrim.errors import InvalidCount, InvalidNumber, InvalidQuotient, InvalidRow, NoSeries, NotNow
from withinrim.quotients import (
    coefficients, is_quotient, mirrored_quotient, quotient_degree, quotient_less, quotient_of, quotient_over,
    quotient_product, quotient_sum, quotient_value,
)

HALF = Fraction(1, 2)
NOUGHT = ((), (ONE,))
BENT = (row(0, 1), row(1, -HALF))
POOL = (Pair(0), Pair(1), Pair(-1), Pair(HALF), Pair(2), Pair(0, 1), rim(HALF), Pair(-3, HALF))


def some_quotient(source):
    """Any QUOTIENT of rows with unlike roots of POOL, or nought."""
    if source.randint(0, 9) == 0:
        return NOUGHT
    roots = list(POOL)
    source.shuffle(roots)
    cut_at = source.randint(0, 3)
    under = [root for root in roots[cut_at:cut_at + source.randint(0, 3)] if root.size() != 0]
    return made_quotient(from_roots(roots[:cut_at] * source.randint(1, 2), some_pair(source) + Pair(20)), from_roots(under))


def places(source):
    """Pairs that are no roots of POOL."""
    return [some_pair(source) + Pair(0, 77) for _ in range(4)]


class TellingTest(unittest.TestCase):
    def test_is_quotient(self):
        for value in WRONG_QUOTIENTS:
            self.assertIs(is_quotient(value), False, repr(value))
        source = random.Random(41)
        tried = [some_quotient(source) for _ in range(40)]
        for value in tried + [NOUGHT, BENT, (row(0, 1), row(1)), (row(1), row(1, 1)), (row(*range(1, 60)), row(1))]:
            self.assertIs(is_quotient(value=value), True)
            self.assertIs(is_quotient(list(value)), False)
            self.assertIs(is_quotient((value[0], tuple(times_rows(value[1], row(2))))), False)
            for shared in (row(1, 1), row(1, Pair(0, HALF)), row(1, 0, 5)):
                self.assertIs(is_quotient((times_rows(value[0], shared), times_rows(value[1], shared))), False)

    def test_degrees(self):
        for value, degree in ((NOUGHT, 0), (BENT, 1), ((row(5), row(1)), 0), ((row(1, 2, 3), row(1)), 2),
                              ((row(1), row(1, 0, 0, 9)), 3), ((row(1, 2), row(1, 0, 1)), 2)):
            self.assertEqual(quotient_degree(quotient=value), degree)


class ReducingTest(unittest.TestCase):
    def test_what_is_in_common_goes(self):
        source = random.Random(42)
        for _ in range(60):
            value = some_quotient(source)
            shared = from_roots(source.choices(POOL, k=source.randint(0, 4)), Pair(source.randint(1, 4), 1))
            top, under = times_rows(value[0], shared), times_rows(value[1], shared)
            self.assertEqual(quotient_of(top, under), value)

    def test_edges(self):
        self.assertEqual(quotient_of((), row(0, 3)), NOUGHT)
        self.assertEqual(quotient_of(under=row(7), top=()), NOUGHT)
        self.assertEqual(quotient_of(row(0, 0, 2), row(0, 0, 4)), (row(HALF), row(1)))
        self.assertEqual(quotient_of(row(0, 0, 2), row(0, 4)), (row(0, HALF), row(1)))
        self.assertEqual(quotient_of(row(3), row(Pair(0, 2))), (row(Pair(0, Fraction(-3, 2))), row(1)))
        self.assertEqual(quotient_of(row(-1, 0, 1), row(1, 1)), (row(-1, 1), row(1)))
        refused(self, NoSeries, None, None, quotient_of, row(1), row(0, 1))
        refused(self, NoSeries, None, None, quotient_of, row(0, 1), row(0, 0, 1))
        refused(self, NotNow, None, None, quotient_of, (), ())
        refused(self, NotNow, None, None, quotient_of, row(1), ())


class ReckoningTest(unittest.TestCase):
    def test_values_of_what_comes(self):
        source = random.Random(43)
        signs = ((quotient_sum, lambda x, y: x + y), (quotient_less, lambda x, y: x - y),
                 (quotient_product, lambda x, y: x * y), (quotient_over, lambda x, y: x / y))
        for _ in range(60):
            one, other = some_quotient(source), some_quotient(source)
            for call, reckon in signs:
                if call is quotient_over and not other[0]:
                    refused(self, NotNow, None, None, call, one, other)
                elif call is quotient_over and value_of(other[0], Pair(0)).size() == 0 and not reaches(one, other):
                    refused(self, NoSeries, None, None, call, one, other)
                else:
                    made = call(one, other)
                    self.assertTrue(is_quotient(made))
                    self.assertTrue(all(reduced_number(each) for some in made for each in some))
                    for at in places(source):
                        self.assertEqual(quotient_at(made, at), reckon(quotient_at(one, at), quotient_at(other, at)))

    def test_degrees_fall(self):
        one = (row(1), row(1, -1))
        self.assertEqual(quotient_less(one, one), NOUGHT)
        self.assertEqual(quotient_sum(one, (row(0, -1), row(1, -1))), (row(1), row(1)))
        self.assertEqual(quotient_product(one, (row(1, -1), row(1))), (row(1), row(1)))
        self.assertEqual(quotient_over(BENT, BENT), (row(1), row(1)))
        self.assertEqual(quotient_over(BENT, (row(0, 1), row(1))), (row(1), row(1, -HALF)))
        self.assertEqual(quotient_over(NOUGHT, BENT), NOUGHT)
        self.assertEqual(quotient_product(NOUGHT, BENT), NOUGHT)
        refused(self, NoSeries, None, None, quotient_over, one, BENT)
        refused(self, NotNow, None, None, quotient_over, BENT, NOUGHT)
        refused(self, NotNow, None, None, quotient_over, NOUGHT, NOUGHT)

    def test_by_name(self):
        half = (row(HALF), row(1))
        self.assertEqual(quotient_sum(other=half, quotient=NOUGHT), half)
        self.assertEqual(quotient_less(other=half, quotient=NOUGHT), (row(-HALF), row(1)))
        self.assertEqual(quotient_product(other=half, quotient=BENT), (row(0, HALF), row(1, -HALF)))
        self.assertEqual(quotient_over(other=half, quotient=BENT), (row(0, 2), row(1, -HALF)))

    def test_mirrored(self):
        source = random.Random(44)
        for _ in range(30):
            value = some_quotient(source)
            mirrored = mirrored_quotient(quotient=value)
            self.assertTrue(is_quotient(mirrored))
            for at in places(source):
                self.assertEqual(quotient_at(mirrored, at), quotient_at(value, at.mirrored()).mirrored())
        self.assertEqual(mirrored_quotient(NOUGHT), NOUGHT)


def reaches(one, other):
    """Whether the first QUOTIENT has the root 0 as often as the other one, which is not nought, or is nought."""
    return not one[0] or lowest(one[0]) >= lowest(other[0])


def lowest(some):
    return next(at for at, each in enumerate(some) if each != num(0))


class ValuesTest(unittest.TestCase):
    def test_values(self):
        source = random.Random(45)
        for _ in range(40):
            value = some_quotient(source)
            for at in places(source) + list(POOL):
                if value_of(value[1], at).size() == 0:
                    self.assertIsNone(quotient_value(value, at.number()))
                else:
                    self.assertEqual(quotient_value(value, at.number()), quotient_at(value, at).number())
        self.assertIsNone(quotient_value(number=num(2), quotient=BENT))
        self.assertEqual(quotient_value(NOUGHT, num(5)), num(0))

    def test_coefficients_times_under_are_those_of_top(self):
        source = random.Random(46)
        for _ in range(40):
            value, many = some_quotient(source), source.randint(1, 9)
            at = source.choice(places(source) + list(POOL))
            found = coefficients(value, at.number(), many)
            if value_of(value[1], at).size() == 0:
                self.assertIsNone(found)
                continue
            self.assertTrue(type(found) is tuple and len(found) == many)
            self.assertTrue(all(reduced_number(each) for each in found))
            top, under = shifted(value[0], at), shifted(value[1], at)
            product = [Pair(0)] * many
            for i, x in enumerate(found):
                for j, y in enumerate(under):
                    if i + j < many:
                        product[i + j] = product[i + j] + pair(x) * y
            self.assertEqual(product, (top + [Pair(0)] * many)[:many])

    def test_edges(self):
        self.assertEqual(coefficients(BENT, num(0), 4), row(0, 1, HALF, Fraction(1, 4)))
        self.assertEqual(coefficients(many=2, number=num(1), quotient=BENT), row(2, 4))
        self.assertEqual(coefficients(NOUGHT, num(3), 3), row(0, 0, 0))
        self.assertEqual(coefficients((row(1, 1), row(1)), num(1), 24), row(2, 1, *([0] * 22)))
        self.assertEqual(coefficients((row(1), row(1, -1)), num(0), 24), row(*([1] * 24)))
        self.assertIsNone(coefficients((row(1), row(1, -1)), num(1), 1))
        self.assertEqual(coefficients((row(1), row(1, 1)), num(0), 1), row(1))


def shifted(some, at):
    """The numbers of a ROW in powers of h at a Pair + h, by products of rows."""
    total = ()
    power = row(1)
    for each in some:
        part = [pair(x) * pair(each) for x in power]
        old = [pair(x) for x in total] + [Pair(0)] * max(0, len(part) - len(total))
        part = part + [Pair(0)] * (len(old) - len(part))
        total = cut([x + y for x, y in zip(old, part)])
        power = times_rows(power, row(at, 1))
    return [pair(x) for x in total]


class RefusalTest(unittest.TestCase):
    def test_quotients(self):
        wrong = given(InvalidQuotient, WRONG_QUOTIENTS)
        number = given(InvalidNumber, WRONG_NUMBERS)
        many = given(InvalidCount, WRONG_WHOLES + (0, -1, 25, 10 ** 40))
        for call in (quotient_degree, mirrored_quotient):
            check_refusals(self, call, (("quotient", wrong, BENT),))
        for call in (quotient_sum, quotient_less, quotient_product, quotient_over):
            check_refusals(self, call, (("quotient", wrong, BENT), ("other", wrong, BENT)))
        check_refusals(self, quotient_value, (("quotient", wrong, BENT), ("number", number, num(1))))
        check_refusals(self, coefficients, (("quotient", wrong, BENT), ("number", number, num(1)), ("many", many, 3)))

    def test_quotient_of(self):
        wrong = given(InvalidRow, WRONG_ROWS)
        check_refusals(self, quotient_of, (("top", wrong, row(1)), ("under", wrong, row(2, 1))))

    def test_what_is_told_with_last_is_last(self):
        for value in STRANGE + BOOLS:
            refused(self, InvalidRow, "given", value, quotient_of, value, ())
            refused(self, InvalidQuotient, "given", value, quotient_over, value, NOUGHT)
            refused(self, InvalidCount, "given", value, coefficients, BENT, num(2), value)

    def test_random_rows(self):
        source = random.Random(47)
        for _ in range(60):
            top, under = some_row(source, 4), some_row(source, 4)
            if not under:
                refused(self, NotNow, None, None, quotient_of, top, under)
            elif top and lowest(top) < lowest(under):
                refused(self, NoSeries, None, None, quotient_of, top, under)
            else:
                made = quotient_of(top, under)
                self.assertTrue(is_quotient(made))
                self.assertEqual(times_rows(made[0], under), times_rows(made[1], top))


if __name__ == "__main__":
    unittest.main()
