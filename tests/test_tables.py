"""TABLEs: told, what mixes come out as in them, and what is made of them."""

import random
import unittest
from fractions import Fraction

from tests.support import (
    BOOLS, ONE, STRANGE, WRONG_FRACTIONS, WRONG_TABLES, WRONG_WHOLES, Pair, check_refusals, given, indexed, num, out_of,
    pair, plain_table, rank_of_rows, reduced_number, refused, row, some_fraction, some_mix, some_table, told,
    wrong_lots_of_mixes, wrong_mixes_of,
)
from withinrim.errors import (
    InvalidCount, InvalidFraction, InvalidMix, InvalidMixes, InvalidTable, NotNow, TooMany,
)
from withinrim.squares import counts_of, is_nonnegative
from withinrim.tables import (
    cleared_table, come_out_together, comes_out, element_product, is_table, led_table, struck_table, table_multiple,
    table_sum, tables_beside,
)

I = Pair(0, 1)
FIRM = (row(2, I), row(Pair(0, -1), 1))
CROSS = (row(0, 1), row(1, 0))
SIX = tuple(row(*[1 if i == j else 0 for j in range(6)]) for i in range(6))


def some_tables(source, many):
    """TABLEs of 0 to 6 rows, of all counts."""
    yield ()
    yield SIX
    for _ in range(many):
        rows = source.randint(1, 6)
        yield some_table(source, rows, [source.choice((-1, 1)) for _ in range(source.randint(0, rows))])[0]


def each_element(table, make):
    return plain_table([[make(i, j) for j in range(len(table))] for i in range(len(table))])


class TellingTest(unittest.TestCase):
    def test_is_table(self):
        for value, _ in WRONG_TABLES:
            self.assertIs(is_table(value), False, repr(value))
        for value in some_tables(random.Random(61), 20):
            self.assertIs(is_table(value=value), True)
            self.assertIs(is_table(list(value)), False)
        self.assertIs(is_table(((num(-5),),)), True)
        self.assertIs(is_table((row(0, 0), row(0, 0))), True)

    def test_one_wrong_element(self):
        source = random.Random(62)
        for table in some_tables(source, 30):
            for i in range(len(table)):
                j = source.randrange(len(table))
                rows = [list(some) for some in table]
                rows[i][j] = (pair(rows[i][j]) + Pair(0, 1)).number()
                wrong = tuple(tuple(some) for some in rows)
                refused(self, InvalidTable, "index", max(i, j), comes_out, wrong, (ONE,) * len(table))
                self.assertIs(is_table(wrong), False)


class ComingOutTest(unittest.TestCase):
    def test_mixes(self):
        source = random.Random(63)
        for table in some_tables(source, 40):
            mix, other = some_mix(source, len(table)), some_mix(source, len(table))
            alone = out_of(table, mix)
            self.assertEqual(alone.im, 0)
            self.assertEqual(comes_out(table, mix), told(alone.re))
            self.assertEqual(come_out_together(table, mix, other), out_of(table, mix, other).number())
            self.assertEqual(come_out_together(table, other, mix), out_of(table, mix, other).mirrored().number())
            self.assertEqual(comes_out(table, (num(0),) * len(table)), (0, 1))

    def test_edges(self):
        self.assertEqual(comes_out((), ()), (0, 1))
        self.assertEqual(come_out_together((), (), ()), num(0))
        self.assertEqual(comes_out(mix=row(1, I), table=FIRM), (5, 1))
        self.assertEqual(comes_out(FIRM, row(1, Pair(0, -1))), (1, 1))
        self.assertEqual(come_out_together(FIRM, row(1, 0), row(0, I)), num(1))
        self.assertEqual(come_out_together(other_mix=row(1, 0), mix=row(0, I), table=FIRM), num(1))
        self.assertEqual(come_out_together(FIRM, row(1, 0), row(0, 1)), num(0, 1))

    def test_led(self):
        source = random.Random(64)
        for table in some_tables(source, 30):
            mixes = tuple(some_mix(source, len(table)) for _ in range(source.randint(0, 6)))
            led = led_table(table, mixes)
            self.assertEqual(led, plain_table([[out_of(table, one, two) for two in mixes] for one in mixes]))
            self.assertIs(is_table(led), True)
            above, _, below = counts_of(table)
            led_above, _, led_below = counts_of(led)
            self.assertTrue(led_above <= above and led_below <= below)
            if len(mixes) == len(table) and rank_of_rows(mixes) == len(table):
                self.assertEqual(counts_of(led), counts_of(table))
        self.assertEqual(led_table(FIRM, ()), ())
        self.assertEqual(led_table(mixes=(row(1, I),), table=FIRM), ((num(5),),))
        self.assertEqual(led_table((), ((), ())), (row(0, 0), row(0, 0)))
        self.assertEqual(led_table(FIRM, (row(1, 0),) * 6), (row(*([2] * 6)),) * 6)


class MakingTest(unittest.TestCase):
    def test_sums_multiples_products(self):
        source = random.Random(65)
        for _ in range(40):
            many = source.randint(0, 6)
            one, other = (some_table(source, many, [1, -1, 1, 1, -1, 1][:many])[0] for _ in range(2))
            x = [[pair(each) for each in some] for some in one]
            y = [[pair(each) for each in some] for some in other]
            factor = some_fraction(source)
            self.assertEqual(table_sum(one, other), each_element(one, lambda i, j: x[i][j] + y[i][j]))
            self.assertEqual(element_product(one, other), each_element(one, lambda i, j: x[i][j] * y[i][j]))
            self.assertEqual(table_multiple(one, told(factor)), each_element(one, lambda i, j: x[i][j] * Pair(factor)))
            for made in (table_sum(one, other), element_product(one, other), table_multiple(one, told(factor))):
                self.assertIs(is_table(made), True)
                self.assertTrue(all(reduced_number(each) for some in made for each in some))

    def test_nonnegative_ones_stay_so(self):
        source = random.Random(66)
        for _ in range(30):
            many = source.randint(1, 4)
            one, other = (some_table(source, many, [1] * source.randint(0, many))[0] for _ in range(2))
            for made in (table_sum(one, other), element_product(one, other), table_multiple(one, (5, 3)),
                         table_multiple(other, (0, 1))):
                self.assertIs(is_nonnegative(made), True)

    def test_struck(self):
        source = random.Random(67)
        for table in some_tables(source, 40):
            for index in range(len(table)):
                struck = struck_table(table, index)
                kept = [k for k in range(len(table)) if k != index]
                self.assertEqual(struck, tuple(tuple(table[i][j] for j in kept) for i in kept))
                above, _, below = counts_of(table)
                self.assertIn(above - counts_of(struck)[0], (0, 1))
                self.assertIn(below - counts_of(struck)[2], (0, 1))
        self.assertEqual(struck_table(index=1, table=FIRM), ((num(2),),))
        self.assertEqual(struck_table(((num(3),),), 0), ())

    def test_beside(self):
        source = random.Random(68)
        tried = list(some_tables(source, 14))
        for one in tried:
            for other in tried:
                if len(one) + len(other) > 6:
                    refused(self, TooMany, None, None, tables_beside, one, other)
                    continue
                made = tables_beside(one, other)
                zero = num(0)
                expected = tuple(some + (zero,) * len(other) for some in one)
                expected += tuple((zero,) * len(one) + some for some in other)
                self.assertEqual(made, expected)
                self.assertEqual(counts_of(made), tuple(x + y for x, y in zip(counts_of(one), counts_of(other))))
        self.assertEqual(tables_beside(other=(), table=FIRM), FIRM)
        self.assertEqual(tables_beside((), ()), ())
        self.assertEqual(tables_beside(SIX, ()), SIX)
        refused(self, TooMany, None, None, tables_beside, SIX, ((num(1),),))

    def test_cleared(self):
        source = random.Random(69)
        for table in some_tables(source, 60):
            if not table or table[0][0] == num(0):
                refused(self, NotNow, None, None, cleared_table, table)
                continue
            x = [[pair(each) for each in some] for some in table]
            cleared = cleared_table(table)
            rest = plain_table([[x[i][j] - x[i][0] * x[0][j] / x[0][0] for j in range(1, len(x))] for i in range(1, len(x))])
            self.assertEqual(cleared, rest)
            above, nought, below = counts_of(table)
            less = (above - 1, nought, below) if x[0][0].re > 0 else (above, nought, below - 1)
            self.assertEqual(counts_of(cleared), less)
        self.assertEqual(cleared_table(table=FIRM), ((num(Fraction(1, 2)),),))
        self.assertEqual(cleared_table(((num(-3),),)), ())
        refused(self, NotNow, None, None, cleared_table, CROSS)
        refused(self, NotNow, None, None, cleared_table, ())


class RefusalTest(unittest.TestCase):
    def test_tables(self):
        wrong = indexed(InvalidTable, WRONG_TABLES)
        mix = indexed(InvalidMix, wrong_mixes_of(2, row(1, I)))
        mixes = indexed(InvalidMixes, wrong_lots_of_mixes(row(1, I)))
        check_refusals(self, comes_out, (("table", wrong, FIRM), ("mix", mix, row(1, 0))))
        check_refusals(self, come_out_together, (("table", wrong, FIRM), ("mix", mix, row(1, 0)), ("other_mix", mix, row(1, 0))))
        check_refusals(self, led_table, (("table", wrong, FIRM), ("mixes", mixes, (row(1, 0),))))
        check_refusals(self, table_multiple, (("table", wrong, FIRM), ("fraction", given(InvalidFraction, WRONG_FRACTIONS), (1, 2))))
        check_refusals(self, cleared_table, (("table", wrong, FIRM),))
        check_refusals(self, tables_beside, (("table", wrong, FIRM), ("other", wrong, FIRM)))
        index = given(InvalidCount, WRONG_WHOLES + (-1, -2, 2, 10 ** 30))
        check_refusals(self, struck_table, (("table", wrong, FIRM), ("index", index, 1)))

    def test_other_tables_of_equally_many_rows(self):
        wrong = indexed(InvalidTable, WRONG_TABLES)
        # What has another number of rows is none of the told form, whatever is in it.
        alike = tuple((value, index if type(value) is tuple and len(value) == 2 else None) for value, index in WRONG_TABLES)
        alike += (((), None), (((num(1),),), None), (SIX, None), (SIX[:3], None), ((1, 2, 3), None))
        for call in (table_sum, element_product):
            check_refusals(self, call, (("table", wrong, FIRM), ("other", indexed(InvalidTable, alike), FIRM)))
            refused(self, InvalidTable, "index", None, call, (), ((num(1),),))
            refused(self, InvalidTable, "index", None, call, ((num(1),),), ())
            self.assertEqual(call((), ()), ())

    def test_no_rows(self):
        refused(self, InvalidMix, "index", None, comes_out, (), (ONE,))
        refused(self, InvalidMix, "index", None, come_out_together, (), (), (ONE,))
        refused(self, InvalidMixes, "index", 1, led_table, (), ((), (ONE,)))
        for index in (0, -1, None, True):
            refused(self, InvalidCount, "given", index, struck_table, (), index)

    def test_what_is_told_with_last_is_last(self):
        for value in STRANGE + BOOLS:
            expected = 0 if type(value) is tuple else None
            refused(self, InvalidTable, "index", expected, tables_beside, SIX, value)


if __name__ == "__main__":
    unittest.main()
