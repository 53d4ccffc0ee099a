"""withinrim.checker: what it takes for each word, whoever wrote it, and that it takes nothing else."""

import random
import unittest
from fractions import Fraction

from tests.support import (
    BOOLS, HALF, LATER, LESS, ONE, START, STRANGE, SURE, UNIT, WRONG_NUMBERS, WRONG_PLACES, WRONG_QUOTIENTS, Pair, all_claims, data_from,
    frac, made_by, num, out_of, own_data_of, own_table, own_tame_table, pair, quotient_at, rim_one, row, shape_at, some_mix, some_pair, some_places, told,
)
from tests.test_claims import wrong_claims
from withinrim.answers import answer, some_answer
from withinrim.certificates import paper_for
from withinrim.checker import accepts
from withinrim.claims import opposite
from withinrim.quotients import mirrored_quotient

ZERO, ONCE, QUARTER = num(0), (1, 1), num(Fraction(1, 4))
MINUS = num(-1)
TWO, EDGE = ((ZERO, (ZERO,)), (HALF, (QUARTER,))), ((ZERO, (ZERO,)), (HALF, (HALF,)))
FAR = ((ZERO, (ZERO,)), (HALF, (ONE,)))
LINE, IDLE, BACK = (row(0, 1), row(1)), ((), row(1)), (row(-1), row(1))
SLOW, DOUBLE = (row(0, Fraction(1, 2)), row(1)), (row(0, 2), row(1))
# Another one with 0 at 0 and 1 / 4 at 1 / 2: z z.
SQUARED = (row(0, 0, 1), row(1))
PROCESS = (row(0, -2), row(1, -2))
EVEN = (row(Fraction(-3, 4)), row(1))
LOTS = STRANGE + BOOLS + (0, 1, (), ONE, LINE, ("roots", 1), ("none", (ONE, MINUS)), (LINE, (ONE, MINUS)), "()", ((),), (ONE,), (ONE, MINUS), 2)


def spoiled(paper):
    """Papers with one thing in them of another kind: a list for a tuple, True or False for 1 or 0, another word."""
    if isinstance(paper, tuple):
        yield list(paper)
        for at, each in enumerate(paper):
            for other in spoiled(each):
                yield paper[:at] + (other,) + paper[at + 1:]
    elif isinstance(paper, str):
        yield from (paper.upper(), paper + " ", paper.encode(), "", None, (paper,), [paper])
    elif paper in (0, 1):
        yield bool(paper)
        yield str(paper)
    else:
        yield from (str(paper), Fraction(paper, 1), (paper,))


class TakesTest(unittest.TestCase):
    def check(self, claim, right, wrong=()):
        """Assert which papers are taken for a claim; none that is taken is one for the opposite, nor spoiled."""
        for paper in right:
            self.assertIs(accepts(claim, paper), True, (claim, paper))
            self.assertIs(accepts(opposite(claim), paper), False, (claim, paper))
            for other in spoiled(paper):
                self.assertIs(accepts(claim, other), False, (claim, other))
            if isinstance(paper, tuple):
                self.assertIs(accepts(claim, paper + (ONE,)), False)
                self.assertIs(accepts(claim, (paper,)), False)
        for paper in tuple(wrong) + (LOTS if not right else ()):
            self.assertIs(accepts(claim, paper), False, (claim, paper))

    def test_what_is_made_anew(self):
        for claim in (("up to", LINE, ONCE), ("answer", EDGE, ONCE, LINE), ("steadied", PROCESS, BACK), ("keeps", PROCESS, BACK, "left", (9, 1)), ("up to", DOUBLE, (4, 1)), ("answer", (), ONCE, IDLE)):
            self.check(claim, ((),), [each for each in LOTS if each != () or not isinstance(each, tuple)] + [0, False, None, "", [], ((),), {}])
        for claim in (("up to", DOUBLE, (3, 1)), ("up to", (row(1), row(1, -1)), (100, 1)), ("answer", TWO, ONCE, LINE), ("answer", FAR, ONCE, DOUBLE), ("answer", EDGE, (1, 2), LINE), ("steadied", PROCESS, IDLE),
                      ("steadied", PROCESS, (row(Fraction(-1, 2)), row(1))), ("keeps", PROCESS, BACK, "left", (8, 1)), ("keeps", PROCESS, IDLE, "echo", (8, 1))):
            self.check(claim, ())

    def test_above(self):
        self.check(("above", DOUBLE, ONCE), (("place", num(Fraction(2, 3))), ("place", num(0, Fraction(-51, 100))), ("place", num(Fraction(-9, 10)))),
                   (("place", HALF), ("place", ZERO), ("place", ONE), ("place", num(2)), ("place", QUARTER), ("roots", 0), ("roots", 1), ("above", num(Fraction(2, 3))), ("place",), (), ("place", None), num(Fraction(2, 3)),
                    ("place", num(Fraction(2, 3)), ()), ("place", 1), (None, num(Fraction(2, 3)))))
        self.check(("above", DOUBLE, (4, 1)), ())
        # Roots of UNDER: 1 / 3 in the disc; 1 on the rim; 1 twice and 1 / 2; 2 alone.
        self.check(("above", (row(1), row(1, -3)), (9, 1)), (("roots", 1), ("place", QUARTER)),
                   (("place", HALF), ("roots", 0), ("roots", 2), ("roots", -1), ("place", num(Fraction(1, 3))), ("place", ZERO), ("place", num(Fraction(-1, 2))), ("roots", (1, 1)), ("roots", "1"), ("roots", ONE), ("roots",), ("roots", 1, 1)))
        self.check(("above", (row(1), row(1, -1)), (10 ** 6, 1)), (("roots", 1), ("place", num(Fraction(1000, 1001)))), (("roots", 0), ("place", num(Fraction(999, 1000))), ("place", ONE)))
        self.check(("above", (row(1), row(1, -4, 5, -2)), ONCE), (("roots", 3), ("place", QUARTER)), (("roots", 1), ("roots", 2), ("roots", 4), ("place", HALF)))
        self.check(("above", (row(3), row(1, Fraction(-1, 2))), (9, 1)), (("place", QUARTER), ("place", HALF)), (("roots", 1), ("roots", 0), ("place", ZERO), ("place", LESS)))
        for value in WRONG_PLACES:
            self.assertIs(accepts(("above", (row(9), row(1)), ONCE), ("place", value)), False)

    def test_some(self):
        self.check(("some", TWO, ONCE), (SLOW, SQUARED), (LINE, DOUBLE, IDLE, ((ZERO, HALF), (ONE,), ()), SLOW[0], (), None))
        self.check(("some", EDGE, ONCE), (LINE,), (SLOW, DOUBLE))
        self.check(("some", FAR, (4, 1)), (DOUBLE,), (LINE,))
        # What has DATA but is not up to the bound.
        self.check(("some", ((ZERO, (ZERO,)),), ONCE), (LINE, SLOW, IDLE), (DOUBLE, (row(0, 1), row(1, -1)), (row(0, 1), row(1, -3)), (row(0, Fraction(1, 2)), row(1, Fraction(-2, 3)))))
        self.check(("some", (), ONCE), (LINE, IDLE, (row(Pair(0, 1)), row(1))), (DOUBLE,))
        self.check(("some", FAR, ONCE), ())
        for value in WRONG_QUOTIENTS:
            self.assertIs(accepts(("some", (), (100, 1)), value), False)
        # A root of UNDER at a PLACE of DATA.
        self.assertIs(accepts(("some", TWO, ONCE), (row(0, 1), row(1, -2))), False)

    def test_none(self):
        self.check(("none", FAR, ONCE), ((ONE, MINUS), (num(2), num(-2)), (num(0, 1), num(0, -1)), (num(Fraction(11, 10)), MINUS)),
                   ((ONE, ONE), (ZERO, ONE), (ONE, ZERO), (ZERO, ZERO), (ONE,), (ONE, MINUS, ZERO), (ONE, None), (ONE, -1), ()))
        self.check(("none", EDGE, ONCE), ())
        self.check(("none", TWO, ONCE), ())
        self.check(("none", (), ONCE), ())
        self.check(("none", ((HALF, (num(2),)),), ONCE), ((ONE,), (num(0, -3),)), ((ZERO,), (), ONE))

    def test_one(self):
        self.check(("one", EDGE, ONCE), ((LINE, (ONE, MINUS)), (LINE, (num(0, 2), num(0, -2)))),
                   ((LINE, (ZERO, ZERO)), (LINE, (ONE, ONE)), (LINE, (ONE, ZERO)), (SLOW, (ONE, MINUS)), (LINE, (ONE,)), (LINE, (ONE, MINUS, ZERO)), LINE, (ONE, MINUS), (LINE,), (LINE, None), ((ONE, MINUS), LINE)))
        self.check(("one", TWO, ONCE), (), ((SLOW, (ONE, MINUS)), (SLOW, (ZERO, ZERO))))
        self.check(("one", FAR, ONCE), (), ((DOUBLE, (ONE, MINUS)), (LINE, (ONE, MINUS)), (LINE, (num(0, 1), ONE))))
        self.check(("one", FAR, (4, 1)), ((DOUBLE, (ONE, MINUS)),), ((DOUBLE, (ONE, ONE)),))
        self.check(("one", (), ONCE), (), ((IDLE, ()), (LINE, ())))
        self.check(("one", ((HALF, (ONE, ZERO)),), ONCE), (((row(1), row(1)), (ONE, ZERO)), ((row(1), row(1)), (num(3), num(0, 4)))), (((row(1), row(1)), (ZERO, ZERO)),))
        # Papers of other DATA's mixes that come out below 0 are none.
        self.check(("one", ((ZERO, (HALF,)),), (1, 4)), (((row(Fraction(1, 2)), row(1)), (MINUS,)),), (((row(Fraction(1, 2)), row(1)), (ZERO,)),))

    def test_many(self):
        self.check(("many", TWO, ONCE), ((SLOW, SQUARED), (SQUARED, SLOW)), ((SLOW, SLOW), (SLOW, LINE), (LINE, SLOW), (SLOW,), (SLOW, SQUARED, SLOW), SLOW, (SLOW, None)))
        self.check(("many", EDGE, ONCE), (), ((LINE, LINE),))
        self.check(("many", (), ONCE), ((IDLE, LINE), (LINE, SLOW)), ((LINE, LINE), (LINE, DOUBLE)))

    def test_not_one_and_not_many(self):
        self.check(("not one", TWO, ONCE), (("many", (SLOW, SQUARED)),), (("many", (SLOW, SLOW)), ("none", (SLOW, SQUARED)), ("one", (SLOW, SQUARED)), ("some", SLOW), (SLOW, SQUARED), ("many", SLOW, SQUARED), ("not many", (SLOW, SQUARED))))
        self.check(("not one", FAR, ONCE), (("none", (ONE, MINUS)),), (("many", (ONE, MINUS)), ("none", (ONE, ONE)), (ONE, MINUS), ("not many", (ONE, MINUS)), ("one", (ONE, MINUS))))
        self.check(("not one", EDGE, ONCE), (), (("one", (LINE, (ONE, MINUS))), ("none", (ONE, MINUS)), ("many", (LINE, LINE))))
        self.check(("not many", EDGE, ONCE), (("one", (LINE, (ONE, MINUS))),), (("one", (LINE, (ZERO, ZERO))), ("none", (ONE, MINUS)), (LINE, (ONE, MINUS)), ("some", LINE), ("many", (LINE, (ONE, MINUS)))))
        self.check(("not many", FAR, ONCE), (("none", (ONE, MINUS)),), (("one", (ONE, MINUS)), ("many", (ONE, MINUS))))
        self.check(("not many", TWO, ONCE), (), (("many", (SLOW, SQUARED)), ("none", (ONE, MINUS))))

    def test_no_answer(self):
        self.check(("no answer", TWO, ONCE, LINE), (("misses", 1),), (("misses", 0), ("misses", 2), ("misses", -1), ("misses", (1, 1)), ("misses",), 1, ("missed", 1), ("above", ("roots", 1))))
        self.check(("no answer", TWO, ONCE, DOUBLE), (("misses", 1), ("above", ("place", num(Fraction(2, 3))))), (("above", ("place", HALF)), ("above", ("roots", 0)), ("place", num(Fraction(2, 3))), ("above", num(Fraction(2, 3)))))
        self.check(("no answer", TWO, (4, 1), DOUBLE), (("misses", 1),), (("misses", 0), ("above", ("place", num(Fraction(2, 3))))))
        self.check(("no answer", FAR, ONCE, DOUBLE), (("above", ("place", num(Fraction(2, 3)))),), (("misses", 0), ("misses", 1)))
        self.check(("no answer", EDGE, ONCE, LINE), ())
        # A root of UNDER at a PLACE; another root of UNDER is no matter there.
        pole = (row(0, 1), row(1, -2))
        self.check(("no answer", EDGE, ONCE, pole), (("misses", 1), ("above", ("roots", 1)), ("above", ("place", num(Fraction(2, 5))))), (("misses", 0), ("above", ("place", HALF))))
        other = (row(0, Fraction(-1, 2)), row(1, -3))
        self.check(("no answer", ((ZERO, (ZERO,)), (HALF, (HALF,))), ONCE, other), (("above", ("roots", 1)),), (("misses", 0), ("misses", 1)))
        self.check(("no answer", (), ONCE, DOUBLE), (("above", ("place", num(Fraction(2, 3)))),), (("misses", 0),))
        # All VALUES of a pair count, not its first one alone.
        self.check(("no answer", ((ZERO, (ZERO, ONE, ZERO)),), ONCE, SQUARED), (("misses", 0),))
        self.check(("no answer", ((ZERO, (ZERO, ZERO, HALF)),), ONCE, SQUARED), (("misses", 0),))

    def test_value(self):
        self.check(("value", EDGE, ONCE, QUARTER, QUARTER), (LINE,), (SLOW, IDLE))
        self.check(("value", TWO, ONCE, LESS, QUARTER), (SQUARED,), (SLOW, LINE))
        self.check(("value", TWO, ONCE, LESS, num(Fraction(-1, 4))), (SLOW,), (SQUARED, LINE))
        self.check(("value", TWO, ONCE, HALF, QUARTER), (SQUARED, SLOW), (LINE,))
        self.check(("value", TWO, ONCE, HALF, HALF), (), (LINE, SLOW))
        self.check(("value", EDGE, ONCE, LESS, HALF), (), (SQUARED, LINE))
        self.check(("value", (), ONCE, HALF, ONE), ((row(1), row(1)),), (DOUBLE, LINE))
        # Up to the bound everywhere, not at the place alone.
        self.check(("value", ((ZERO, (ZERO,)),), ONCE, HALF, num(Fraction(2, 5))), ((row(0, Fraction(4, 5)), row(1)),), ((row(0, 0, Fraction(8, 5)), row(1)), (row(0, Fraction(2, 5)), row(1, -1, 1))))

    def test_no_value(self):
        self.check(("no value", EDGE, ONCE, HALF, ONE), (("told", 1),), (("told", 0), ("told", 2), ("told", -1), ("told",), 1, ("more", (ONE, MINUS, ZERO)), ("more", (ONE, MINUS)), ("none", (ONE, MINUS))))
        self.check(("no value", FAR, ONCE, HALF, ONE), (("none", (ONE, MINUS)),), (("told", 1), ("told", 0), ("more", (ONE, MINUS, ZERO))))
        self.check(("no value", FAR, ONCE, HALF, ZERO), (("none", (ONE, MINUS)), ("told", 1)), (("more", (ONE, MINUS, ZERO)), ("more", (ONE, MINUS))))
        self.check(("no value", FAR, ONCE, QUARTER, ZERO), (("none", (ONE, MINUS)), ("more", (ONE, MINUS, ZERO))), (("told", 0), ("told", 1), ("none", (ONE, MINUS, ZERO)), ("more", (ONE, MINUS))))
        self.check(("no value", (), ONCE, HALF, num(2)), (("more", (ONE,)), ("more", (num(0, -5),))), (("more", (ZERO,)), ("more", ()), ("told", 0), ("none", ()), ("none", (ONE,)), (ONE,)))
        self.check(("no value", (), ONCE, HALF, ONE), (), (("more", (ONE,)), ("more", (MINUS,))))
        # 0 at 0 and 1 at 1 / 2 is FAR.
        self.check(("no value", ((ZERO, (ZERO,)),), ONCE, HALF, ONE), (("more", (ONE, MINUS)),), (("more", (MINUS, MINUS)), ("none", (ONE,)), ("more", (ONE,))))
        # The first VALUE at the PLACE alone counts.
        self.check(("no value", ((ZERO, (ZERO, HALF)),), ONCE, ZERO, HALF), (("told", 0),))
        self.check(("no value", ((ZERO, (ZERO, HALF)),), ONCE, ZERO, ZERO), (), (("told", 0),))
        self.check(("no value", EDGE, ONCE, HALF, HALF), (), (("told", 1), ("more", (ONE, MINUS, ZERO))))

    def test_seven_values(self):
        source = random.Random(331)
        for counts in ((1, 1, 1, 1, 1, 1), (3, 3), (2, 1, 3)):
            shape = shape_at(source, counts)
            data = data_from(rim_one(Pair(1), some_places(source, 7, (2, 3))), shape)
            place, number = num(Fraction(3, 5), Fraction(1, 7)), num(Fraction(9, 10), Fraction(-1, 3))
            table = own_table(data + ((place, (number,)),), Fraction(1))
            found = paper_for(("no value", data, ONCE, place, number))
            self.assertEqual((found[0], len(found[1])), ("more", 7))
            self.assertLess(out_of(table, found[1]).re, 0)
            self.check(("no value", data, ONCE, place, number), (found,), (("more", found[1][:6]), ("none", found[1]), ("more", (ZERO,) * 7), ("more", (ONE,) + (ZERO,) * 6), ("more", found[1] + (ZERO,))))
            # The value that some answer has there, and others up to the bound that have DATA but not the value.
            one, other = some_answer(data), answer(data, (row(HALF), row(1)))
            there = quotient_at(one, pair(place)).number()
            self.check(("value", data, ONCE, place, there), (one,), (other, LINE))

    def test_nonnegative(self):
        even = (row(1, 1), row(1, 1))
        self.check(("nonnegative", even), ((((1, 1), (ONE, ONE)),), (((1, 4), (num(2), num(2))),), (((1, 2), (ONE, ONE)), ((1, 2), (MINUS, MINUS))), (((1, 1), (num(0, 1), num(0, 1))),)),
                   ((), (((1, 1), (ONE, MINUS)),), (((2, 1), (ONE, ONE)), ((-1, 1), (ONE, ONE))), (((1, 1), (ONE, ONE)), ((0, 1), (ONE, ONE))), (((1, 1), (ONE, ONE)), ((1, 1), (ZERO, ZERO))), ((ONE, ONE),),
                    ((1, (ONE, ONE)),), (((1, 1), (ONE,)),), ((1, 1), (ONE, ONE)), (ONE, ONE)))
        self.check(("nonnegative", ()), ((),), ((((1, 1), ()),), None, []))
        self.check(("nonnegative", (row(0),)), ((),), ((((1, 1), (ZERO,)),), (((1, 1), (ONE,)), ((-1, 1), (ONE,)))))
        # Squares that make it, one with W below 0.
        self.check(("nonnegative", (row(2),)), ((((2, 1), (ONE,)),), (((1, 1), (ONE,)), ((1, 1), (num(0, 1),)))), ((((3, 1), (ONE,)), ((-1, 1), (ONE,))), (((1, 1), (ONE,)),)))
        self.check(("nonnegative", (row(0, 1), row(1, 0))), (), ((((1, 2), (ONE, ONE)), ((-1, 2), (ONE, MINUS))),))
        source = random.Random(332)
        for many in range(1, 7):
            squares = tuple((told(Fraction(source.randint(1, 9), source.randint(1, 5))), some_mix(source, many)) for _ in range(many + 2))
            squares = tuple(each for each in squares if any(part != ZERO for part in each[1]))
            self.assertIs(accepts(("nonnegative", made_by(squares, many)), squares), True)
            self.assertIs(accepts(("nonnegative", made_by(squares, many)), squares[::-1]), True)
            self.assertIs(accepts(("nonnegative", made_by(squares, many)), squares[1:]), False)

    def test_below(self):
        cross = (row(0, 1), row(1, 0))
        self.check(("below", cross), ((ONE, MINUS), (MINUS, num(7))), ((ONE, ONE), (ONE, ZERO), (ZERO, ZERO), (ONE, num(0, 1)), (ONE,), (ONE, MINUS, ZERO), (), (ONE, -1)))
        self.check(("below", (row(1, 1), row(1, 1))), ())
        self.check(("below", ()), (), ((),))
        source = random.Random(333)
        for claim, truth in all_claims(334):
            if claim[0] == "below" and claim[1]:
                for _ in range(5):
                    mix = some_mix(source, len(claim[1]))
                    self.assertIs(accepts(claim, mix), out_of(claim[1], mix).re < 0)

    def test_tame(self):
        half_turn = ((ZERO, (ONE, num(2))),)
        tame = (row(1, 1), row(1, -1))
        self.check(("tame", half_turn), (tame,), ((row(1, 2), row(1)), (row(1), row(1)), LINE, (row(1, Fraction(1, 2)), row(1, Fraction(-3, 2)))))
        self.check(("tame", ((ZERO, (ONE, ONE)),)), ((row(1, 1), row(1)), (row(1), row(1, -1)), (row(1, Fraction(1, 2)), row(1, Fraction(-1, 2)))), ((row(1, 1, 5), row(1)), tame, (row(1, 1, 1), row(1)), (row(1, -1), row(1, -2))))
        self.check(("tame", ()), (tame, IDLE, (row(Pair(0, 9)), row(1)), (row(5), row(1))), (LINE, (row(-1), row(1)), (row(1), row(1, -2))))
        self.check(("tame", ((ZERO, (ONE, num(3))),)), ())
        self.check(("not tame", ((ZERO, (ONE, num(3))),)), ((ONE, MINUS), (num(0, 1), num(0, -1))), ((ONE, ONE), (ZERO, ONE), (ZERO, ZERO), (ONE,), (ONE, MINUS, ZERO)))
        self.check(("not tame", ((HALF, (num(-1, 5),)),)), ((ONE,), (num(0, 3),)), ((ZERO,), ()))
        self.check(("not tame", half_turn), ())
        source = random.Random(335)
        for counts in ((1, 1), (2, 1), (3,)):
            data = tuple((place.number(), tuple(some_pair(source, 3, 2).number() for _ in range(many))) for place, many in shape_at(source, counts))
            for _ in range(10):
                mix = some_mix(source, sum(counts))
                self.assertIs(accepts(("not tame", data), mix), out_of(own_tame_table(data), mix).re < 0)

    def test_loops(self):
        self.check(("not steadied", PROCESS, IDLE), (1,), (0, 2, -1, (1,), ("loop", 1), "1", ONE, (1, 1), None))
        self.check(("not steadied", PROCESS, (row(Fraction(-1, 2)), row(1))), (1,), (0, 2))
        self.check(("not steadied", PROCESS, (row(1, -2), row(1))), (2,), (1, 0, 3))
        self.check(("not steadied", PROCESS, BACK), (), (0, 1))
        # What is left by BACK is 1 - 2 z, 3 at - 1; by the idle one 1 throughout, its loop not steadied.
        self.check(("fails", PROCESS, BACK, "left", (8, 1)), (("above", ("place", num(Fraction(-99, 100)))),),
                   (("loop", 0), ("loop", 1), ("above", ("place", num(Fraction(-9, 10)))), ("place", num(Fraction(-99, 100))), ("above", ("roots", 0)), ("above", ("place", num(Fraction(99, 100))))))
        self.check(("fails", PROCESS, IDLE, "left", (9, 1)), (("loop", 1),), (1, ("loop", 2), ("loop", 0), ("above", ("roots", 1)), ("above", ("place", QUARTER)), ("roots", 1)))
        self.check(("fails", PROCESS, IDLE, "echo", (9, 1)), (("loop", 1),), (("above", ("place", QUARTER)),))
        # Both kinds: the loop row has the root 1 / 2 twice, and what is left is 1 over 1 - 2 z.
        self.check(("fails", PROCESS, (row(1, -2), row(1)), "left", (3, 1)), (("loop", 2), ("above", ("roots", 1)), ("above", ("place", QUARTER))), (("loop", 1), ("above", ("roots", 2)), ("above", ("place", HALF)), ("above", ("place", ZERO))))
        self.check(("fails", PROCESS, BACK, "echo", (3, 1)), (("above", ("place", num(Fraction(9, 10)))),), (("above", ("place", num(Fraction(8, 10)))), ("above", ("place", ONE))))
        self.check(("fails", PROCESS, BACK, "left", (9, 1)), (), (("above", ("place", num(Fraction(-99, 100)))),))
        self.check(("fails", PROCESS, BACK, "echo", (4, 1)), ())

    def test_kept(self):
        self.check(("kept", SURE, "left", (4, 1)), (EVEN,), (BACK, IDLE, (row(Fraction(-74, 100)), row(1)), (), None))
        self.check(("kept", SURE, "left", (9, 1)), (EVEN, BACK), (IDLE, (row(Fraction(-1, 2)), row(1)), (row(1, -2), row(1))))
        self.check(("kept", SURE, "echo", (4, 1)), (BACK,), (EVEN, IDLE))
        self.check(("kept", SURE, "left", (3, 1)), (), (EVEN, BACK))
        self.check(("not kept", SURE, "left", (3, 1)), tuple(mix for mix in ((ONE, MINUS), (num(3), num(-2)), (num(4), num(-3))) if out_of(own_table(own_data_of(SURE, "left"), Fraction(3)), mix).re < 0),
                   ((ONE, ONE), (ZERO, ONE), (ONE, ZERO), (ZERO, ZERO), (ONE,), ("none", (num(4), num(-3)))))
        self.check(("not kept", SURE, "left", (4, 1)), ())
        self.check(("not kept", LATER, "echo", ONCE), (paper_for(("none", own_data_of(LATER, "echo"), ONCE)),))
        # Without POLES what is echoed can be 0, what is left can't be below 1.
        free = (START, (), UNIT)
        self.check(("kept", free, "echo", (1, 10 ** 9)), (IDLE,), (BACK, (row(1), row(1))))
        self.check(("not kept", free, "left", (1, 2)), ((ONE,), (num(0, 4),)), ((ZERO,), ()))
        for value in WRONG_QUOTIENTS:
            self.assertIs(accepts(("kept", free, "echo", (10 ** 9, 1)), value), False)

    def test_mixes_of_any_numbers(self):
        source = random.Random(336)
        for claim, _ in all_claims(337):
            if claim[0] == "none" and claim[1]:
                table = own_table(claim[1], frac(claim[2]))
                for _ in range(3):
                    mix = some_mix(source, len(table))
                    self.assertIs(accepts(claim, mix), out_of(table, mix).re < 0)
        for value in WRONG_NUMBERS:
            self.assertIs(accepts(("none", FAR, ONCE), (ONE, value)), False)
            self.assertIs(accepts(("none", FAR, ONCE), (value, MINUS)), False)


class WhateverTest(unittest.TestCase):
    def test_no_claims(self):
        papers = ((), (ONE, MINUS), ("roots", 1), LINE, (LINE, SLOW), None, 1)
        for at, claim in enumerate(wrong_claims()):
            self.assertIs(accepts(claim, papers[at % len(papers)]), False)
        self.assertIs(accepts(5, None), False)
        self.assertIs(accepts(claim=("up to", LINE, ONCE), paper=()), True)

    def test_no_papers(self):
        source = random.Random(338)
        for claim, truth in source.sample(all_claims(339), 260):
            for paper in LOTS + ((claim[0], ()), ("none", None), ("many", (None, None)), ("one", (None, None)), ("above", None), ("misses", None), ("told", True), ("more", None), ("loop", True), ("roots", True), ("place", None)):
                found = accepts(claim, paper)
                self.assertIn(found, (True, False))
                if found:
                    self.assertIs(truth, True, (claim, paper))

    def test_spoiled_papers(self):
        source = random.Random(340)
        for claim, truth in source.sample(all_claims(341), 260):
            paper = paper_for(claim)
            if paper is None:
                continue
            others = list(spoiled(paper))
            for other in source.sample(others, min(12, len(others))):
                self.assertIs(accepts(claim, other), False, (claim, other))
            wrong = (list(claim),) + tuple(claim[:at] + (other,) + claim[at + 1:] for at in range(len(claim)) for other in ([*claim[at:at + 1]], None, True))
            for each in wrong:
                self.assertIs(accepts(each, paper), False)

    def test_other_answers_are_taken(self):
        # Whoever wrote it: answers for other free series, mirrored DATA with mirrored papers.
        for claim, truth in all_claims(342):
            if claim[0] == "many" and truth:
                _, data, bound = claim
                small = min(frac(bound), Fraction(1))
                pairs = tuple(answer(data, (row(Pair(small / 3, small / 2), Pair(0, small / 7)), row(1)), bound) for _ in range(1))
                pairs += (answer(data, (row(Pair(0, small / 2)), row(1)), bound),)
                self.assertIs(accepts(claim, pairs), True)
                self.assertIs(accepts(("some", data, bound), pairs[1]), True)
                back = tuple((pair(place).mirrored().number(), tuple(pair(each).mirrored().number() for each in values)) for place, values in data)
                self.assertIs(accepts(("many", back, bound), tuple(mirrored_quotient(each) for each in pairs)), True)


if __name__ == "__main__":
    unittest.main()
