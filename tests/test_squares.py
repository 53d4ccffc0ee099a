"""Squares that make a TABLE, mixes that come out below nought, counts, rank and null mixes."""

import random
import unittest
from fractions import Fraction

from tests.support import (
    BOOLS, ONE, STRANGE, WRONG_FRACTIONS, WRONG_TABLES, Pair, check_refusals, frac, indexed, made_by, num, out_of, pair,
    plain_table, rank_of_rows, reduced_fraction, reduced_number, row, some_mix, some_table, told,
)
from withinrim.errors import InvalidTable
from withinrim.squares import (
    counts_of, do_make, is_nonnegative, is_positive, mix_below, null_mixes, rank_of, signed_squares, squares_of,
)

I = Pair(0, 1)
ZERO = num(0)
FIRM = (row(2, I), row(Pair(0, -1), 1))
EVEN = (row(1, 1), row(1, 1))
CROSS = (row(0, 1), row(1, 0))
HALF = Fraction(1, 2)


def some_cases(source, many):
    """TABLEs with their counts; among them some with noughts at an index, or along the diagonal."""
    for _ in range(many):
        rows = source.randint(1, 6)
        signs = [source.choice((-1, 1, 1)) for _ in range(source.randint(0, rows))]
        if source.randint(0, 2) == 0:
            signs = [1] * len(signs)
        table, counts = some_table(source, rows, signs)
        yield table, counts
        if rows < 6:
            at = source.randint(0, rows)
            wider = [some[:at] + (ZERO,) + some[at:] for some in table]
            wider.insert(at, (ZERO,) * (rows + 1))
            yield tuple(wider), (counts[0], counts[1] + 1, counts[2])
    for rows in range(1, 4):
        # Noughts T beside: T and its mirrored one, turned, leave noughts along the diagonal.
        inner = [some_mix(source, rows) for _ in range(rows)]
        table = [[Pair(0)] * (2 * rows) for _ in range(2 * rows)]
        for i in range(rows):
            for j in range(rows):
                table[i][rows + j] = pair(inner[i][j])
                table[rows + j][i] = pair(inner[i][j]).mirrored()
        rank = rank_of_rows(inner)
        yield plain_table(table), (rank, 2 * rows - 2 * rank, rank)


HAND = (
    ((), (0, 0, 0)), (((num(3),),), (1, 0, 0)), (((num(0),),), (0, 1, 0)), (((num(-3),),), (0, 0, 1)),
    (FIRM, (2, 0, 0)), (EVEN, (1, 1, 0)), (CROSS, (1, 0, 1)), ((row(0, I), row(Pair(0, -1), 0)), (1, 0, 1)),
    ((row(0, 0), row(0, 0)), (0, 2, 0)), ((row(0, 1), row(1, 5)), (1, 0, 1)), ((row(0, 1), row(1, -5)), (1, 0, 1)),
    ((row(0, 0, 0), row(0, 1, 1), row(0, 1, 1)), (1, 2, 0)), ((row(1, 2), row(2, 4)), (1, 1, 0)),
    ((row(1, 2), row(2, 3)), (1, 0, 1)), ((row(-1, 0), row(0, 1)), (1, 0, 1)), ((row(0, 0, 1), row(0, 2, 0), row(1, 0, 0)), (2, 0, 1)),
    ((row(1, 1, 1), row(1, 1, 1), row(1, 1, 0)), (1, 1, 1)), ((row(1, 1, 0), row(1, 1, 1), row(0, 1, 9)), (2, 0, 1)),
    ((row(0, 1, 1), row(1, 0, 1), row(1, 1, 0)), (1, 0, 2)), ((row(*([0] * 6)),) * 6, (0, 6, 0)),
    ((row(*([1] * 6)),) * 6, (1, 5, 0)), ((row(*([-1] * 6)),) * 6, (0, 5, 1)),
)


def all_cases(seed, many=60):
    return list(HAND) + list(some_cases(random.Random(seed), many))


class SteppedTest(unittest.TestCase):
    def test_just_one_of_both_is_there(self):
        for table, (_, _, below) in all_cases(71):
            squares, mix = squares_of(table), mix_below(table)
            if below == 0:
                self.assertIsNone(mix)
                self.check_stepped(table, squares)
            else:
                self.assertIsNone(squares)
                self.assertEqual((type(mix), len(mix)), (tuple, len(table)))
                self.assertTrue(all(reduced_number(each) for each in mix))
                self.assertLess(out_of(table, mix).re, 0, table)
            self.assertIs(is_nonnegative(table), below == 0)

    def check_stepped(self, table, squares):
        self.assertIs(type(squares), tuple)
        leads = []
        for weight, mix in squares:
            self.assertTrue(reduced_fraction(weight) and weight[0] > 0)
            self.assertTrue(all(reduced_number(each) for each in mix))
            leads.append(next(at for at, each in enumerate(mix) if each != ZERO))
            self.assertEqual(mix[leads[-1]], ONE)
        self.assertEqual(leads, sorted(set(leads)))
        self.assertEqual(made_by(squares, len(table)), table)
        self.assertIs(do_make(table, squares), True)

    def test_by_hand(self):
        self.assertEqual(squares_of(FIRM), (((2, 1), row(1, Pair(0, -HALF))), ((1, 2), row(0, 1))))
        self.assertEqual(squares_of(table=EVEN), (((1, 1), row(1, 1)),))
        self.assertEqual(squares_of(()), ())
        self.assertEqual(squares_of((row(0, 0), row(0, 3))), (((3, 1), row(0, 1)),))
        self.assertIsNone(squares_of(CROSS))
        self.assertIsNone(mix_below(table=FIRM))
        self.assertIsNone(mix_below(()))

    def test_below_behind_cleared_ones(self):
        source = random.Random(72)
        for _ in range(30):
            rows = source.randint(2, 6)
            table, _ = some_table(source, rows, [1] * (rows - 1) + [-1])
            self.assertLess(out_of(table, mix_below(table)).re, 0)
        # Hardly below: 1, 1, 1, 1 less a little in the last corner.
        little = Fraction(1, 10 ** 60)
        table = (row(1, 1, 0), row(1, 1, 0), row(0, 0, -little))
        self.assertLess(out_of(table, mix_below(table)).re, 0)
        table = (row(1, 1), row(1, 1 - little))
        self.assertLess(out_of(table, mix_below(table)).re, 0)
        self.assertIsNone(mix_below((row(1, 1), row(1, 1 + little))))


class CountsTest(unittest.TestCase):
    def test_counts(self):
        for table, (above, nought, below) in all_cases(73):
            self.assertEqual(counts_of(table), (above, nought, below), table)
            self.assertEqual(rank_of(table), above + below)
            self.assertEqual(rank_of_rows(table), above + below)
            self.assertIs(is_nonnegative(table), below == 0)
            self.assertIs(is_positive(table), above == len(table))

    def test_by_name(self):
        self.assertEqual(counts_of(table=CROSS), (1, 0, 1))
        self.assertEqual(rank_of(table=EVEN), 1)
        self.assertIs(is_nonnegative(table=()), True)
        self.assertIs(is_positive(table=()), True)
        self.assertIs(is_positive(EVEN), False)

    def test_signed_squares(self):
        for table, (above, _, below) in all_cases(74):
            squares = signed_squares(table)
            self.assertIs(type(squares), tuple)
            for weight, mix in squares:
                self.assertTrue(reduced_fraction(weight) and weight[0] != 0)
                self.assertTrue(len(mix) == len(table) and all(reduced_number(each) for each in mix))
            self.assertEqual(made_by(squares, len(table)), table)
            self.assertEqual(rank_of_rows([mix for _, mix in squares]), len(squares))
            self.assertEqual(sum(1 for weight, _ in squares if weight[0] > 0), above)
            self.assertEqual(sum(1 for weight, _ in squares if weight[0] < 0), below)
            self.assertIs(do_make(table=table, squares=squares), True)
        self.assertEqual(signed_squares(table=()), ())


class MakingTest(unittest.TestCase):
    def test_any_squares(self):
        source = random.Random(75)
        for _ in range(40):
            rows = source.randint(1, 6)
            squares = tuple((told(Fraction(source.choice((-2, -1, 1, 3)), 2)), some_mix(source, rows - 1) + (ONE,))
                            for _ in range(source.randint(0, 8)))
            table = made_by(squares, rows)
            self.assertIs(do_make(table, squares), True)
            self.assertIs(do_make(table, squares[::-1]), True)
            self.assertIs(do_make(table, squares + (((1, 1), (ZERO,) * (rows - 1) + (ONE,)),)), False)
            self.assertIs(do_make(table, squares + (((1, 3), squares[0][1] if squares else (ONE,) * rows),)), False)
            both = (((1, 5), (ONE,) * rows), ((-1, 5), (ONE,) * rows))
            self.assertIs(do_make(table, squares + both), True)
            self.assertIs(do_make(table, list(squares)), False)
            if squares:
                self.assertIs(do_make(table, squares[1:]), False)
                self.assertIs(do_make(table, (list(squares[0]),) + squares[1:]), False)

    def test_whatever_is_passed_as_squares(self):
        for value in STRANGE + BOOLS:
            self.assertIs(do_make(EVEN, value), False)
            self.assertIs(do_make(EVEN, (value,)), False)
            self.assertIs(do_make(EVEN, (value, ((1, 1), row(1, 1)))), False)
            self.assertIs(do_make(EVEN, (((1, 1), value),)), False)
            self.assertIs(do_make((), (value,)), False)
        for weight in WRONG_FRACTIONS + ((0, 1),):
            self.assertIs(do_make(EVEN, ((weight, row(1, 1)),)), False)
            self.assertIs(do_make(EVEN, (((1, 1), row(1, 1)), (weight, row(1, 1)))), False)
        for mix in (row(1), row(1, 1, 0), list(row(1, 1)), (ONE, [ONE]), (ONE, True), (ONE, ((2, 2), (0, 1)))):
            self.assertIs(do_make(EVEN, (((1, 1), mix),)), False)

    def test_noughts_make_no_square(self):
        self.assertIs(do_make(EVEN, (((1, 1), row(1, 1)), ((1, 1), row(0, 0)))), False)
        self.assertIs(do_make((row(0, 0), row(0, 0)), (((1, 1), row(0, 0)),)), False)
        self.assertIs(do_make((row(0, 0), row(0, 0)), ()), True)
        self.assertIs(do_make((), (((1, 1), ()),)), False)
        self.assertIs(do_make((), ()), True)
        self.assertIs(do_make((), []), False)
        self.assertIs(do_make(EVEN, ()), False)
        self.assertIs(do_make(EVEN, ((row(1)[0], row(1, 1)),)), False)
        self.assertIs(do_make(EVEN, (((1, 1), row(1, 1), ()),)), False)
        # Without the mirrored one at the right place it would be the turned table.
        self.assertIs(do_make(FIRM, (((2, 1), row(1, Pair(0, HALF))), ((1, 2), row(0, 1)))), False)


class NullMixesTest(unittest.TestCase):
    def test_index_by_index(self):
        for table, (_, nought, _) in all_cases(76):
            found = null_mixes(table)
            indexes = [at for at in range(len(table)) if rank_of_rows(table[:at + 1]) == rank_of_rows(table[:at])]
            self.assertIs(type(found), tuple)
            self.assertEqual((len(found), len(indexes)), (nought, nought))
            for mix, at in zip(found, indexes):
                self.assertTrue(len(mix) == len(table) and all(reduced_number(each) for each in mix))
                self.assertEqual([mix[k] for k in indexes], [ONE if k == at else ZERO for k in indexes])
                for column in range(len(table)):
                    total = Pair(0)
                    for x, some in zip(mix, table):
                        total = total + pair(x) * pair(some[column])
                    self.assertEqual(total, Pair(0))

    def test_by_hand(self):
        self.assertEqual(null_mixes(table=EVEN), (row(-1, 1),))
        self.assertEqual(null_mixes(()), ())
        self.assertEqual(null_mixes(CROSS), ())
        self.assertEqual(null_mixes((row(0, 0), row(0, 0))), (row(1, 0), row(0, 1)))
        self.assertEqual(null_mixes((row(0, 0), row(0, 1))), (row(1, 0),))
        # Row 1 is - i times row 0.
        self.assertEqual(null_mixes((row(1, I), row(Pair(0, -1), 1))), (row(I, 1),))

    def test_no_leads_for_nonnegative_ones(self):
        for table, (_, _, below) in all_cases(77, 40):
            if below == 0:
                leads = [next(at for at, each in enumerate(mix) if each != ZERO) for _, mix in squares_of(table)]
                free = [at for at in range(len(table)) if at not in leads]
                for mix, at in zip(null_mixes(table), free):
                    self.assertEqual(mix[at], ONE)
                    self.assertEqual(out_of(table, mix), Pair(0))


class RefusalTest(unittest.TestCase):
    def test_tables(self):
        wrong = indexed(InvalidTable, WRONG_TABLES)
        for call in (squares_of, mix_below, signed_squares, counts_of, rank_of, is_nonnegative, is_positive, null_mixes):
            check_refusals(self, call, (("table", wrong, FIRM),))
        for value, index in WRONG_TABLES:
            for squares in ((), None, (((1, 1), row(1, 1)),)):
                with self.assertRaises(InvalidTable) as caught:
                    do_make(value, squares)
                self.assertEqual(caught.exception.index, index)

    def test_answers_are_alike(self):
        for table, _ in all_cases(78, 10):
            for call in (squares_of, mix_below, signed_squares, counts_of, null_mixes):
                self.assertEqual(call(table), call(table))
        self.assertEqual(frac(squares_of(FIRM)[1][0]), HALF)


if __name__ == "__main__":
    unittest.main()
