"""withinrim.certificates: papers for claims that are true, and for no others."""

import unittest
from fractions import Fraction

from tests.support import HALF, LATER, LESS, ONE, OPPOSITES, START, SURE, UNIT, all_claims, check_refusals, given, num, refused, row
from tests.test_claims import wrong_claims
from withinrim.certificates import paper_for, settled
from withinrim.checker import accepts
from withinrim.claims import opposite
from withinrim.errors import InvalidClaim

ZERO, MINUS, ONCE = num(0), num(-1), (1, 1)
TWO, EDGE = ((ZERO, (ZERO,)), (HALF, (num(Fraction(1, 4)),))), ((ZERO, (ZERO,)), (HALF, (HALF,)))
FAR = ((ZERO, (ZERO,)), (HALF, (ONE,)))
LINE, IDLE, BACK = (row(0, 1), row(1)), ((), row(1)), (row(-1), row(1))
PROCESS = (row(0, -2), row(1, -2))


class PaperTest(unittest.TestCase):
    def test_just_true_claims_have_papers(self):
        words = {}
        for claim, truth in all_claims(321):
            paper = paper_for(claim)
            self.assertIs(paper is not None, truth, claim)
            if paper is not None:
                self.assertIs(accepts(claim, paper), True, claim)
                self.assertIs(accepts(opposite(claim), paper), False, claim)
                words[claim[0]] = words.get(claim[0], 0) + 1
        self.assertEqual(set(words), {word for both in OPPOSITES for word in both})
        self.assertGreater(min(words.values()), 2)

    def test_settled(self):
        for claim, truth in all_claims(322):
            found, paper = settled(claim)
            self.assertEqual(found, claim if truth else opposite(claim))
            self.assertIs(accepts(found, paper), True)
            self.assertIs(type(settled(claim)), tuple)

    def test_by_hand(self):
        self.assertEqual(paper_for(("up to", LINE, ONCE)), ())
        self.assertEqual(paper_for(("above", (row(1), row(1, -3)), (9, 1))), ("roots", 1))
        self.assertEqual(paper_for(claim=("one", EDGE, ONCE)), (LINE, row(-1, 1)))
        self.assertEqual(paper_for(("some", EDGE, ONCE)), LINE)
        self.assertEqual(paper_for(("answer", EDGE, ONCE, LINE)), ())
        self.assertEqual(paper_for(("no value", EDGE, ONCE, HALF, ONE)), ("told", 1))
        self.assertEqual(paper_for(("value", EDGE, ONCE, LESS, LESS)), LINE)
        self.assertEqual(paper_for(("not steadied", PROCESS, IDLE)), 1)
        self.assertEqual(paper_for(("fails", PROCESS, IDLE, "left", ONCE)), ("loop", 1))
        self.assertEqual(paper_for(("steadied", PROCESS, BACK)), ())
        self.assertEqual(paper_for(("kept", SURE, "left", (4, 1))), (row(Fraction(-3, 4)), row(1)))
        self.assertEqual(paper_for(("nonnegative", ())), ())
        self.assertEqual(paper_for(("nonnegative", (row(0),))), ())
        self.assertEqual(paper_for(("below", (row(-3),))), (ONE,))
        self.assertEqual(paper_for(("kept", (START, (), UNIT), "echo", (1, 10 ** 30))), IDLE)
        self.assertEqual(settled(claim=("some", FAR, ONCE))[0], ("none", FAR, ONCE))
        self.assertEqual([settled(("one", FAR, (4, 1)))[0][0], settled(("not one", FAR, (4, 1)))[0][0]], ["one", "one"])

    def test_edges(self):
        mirrored = ((ZERO, (ONE,)), (HALF, (ONE, ZERO)))
        cases = (
            # DATA (), one VALUE alone, the bound from tiny to huge.
            (("many", (), ONCE), True), (("many", (), (1, 10 ** 40)), True), (("many", (), (10 ** 40, 1)), True), (("many", (), (10 ** 40, 10 ** 40 - 1)), True), (("one", (), ONCE), False),
            (("none", (), (1, 10 ** 40)), False), (("many", ((HALF, (ONE,)),), (10 ** 20 + 1, 10 ** 20)), True), (("one", ((HALF, (ONE,)),), ONCE), True), (("none", ((HALF, (ONE,)),), (10 ** 20 - 1, 10 ** 20)), True),
            (("one", mirrored, ONCE), True), (("none", ((ZERO, (ONE,)), (HALF, (ONE, ONE))), ONCE), True), (("not many", mirrored, ONCE), True), (("not one", mirrored, (2, 1)), True),
            # A further PLACE that is one of DATA's.
            (("value", TWO, ONCE, HALF, num(Fraction(1, 4))), True), (("no value", TWO, ONCE, HALF, ZERO), True), (("no value", FAR, ONCE, HALF, ONE), True), (("no value", FAR, ONCE, HALF, ZERO), True),
            (("no value", FAR, ONCE, LESS, ZERO), True), (("value", (), ONCE, HALF, ONE), True), (("value", (), ONCE, HALF, num(Fraction(101, 100))), False), (("value", TWO, ONCE, LESS, num(Fraction(1, 4))), True),
            (("value", TWO, ONCE, LESS, num(Fraction(1, 4), Fraction(1, 9))), False), (("value", EDGE, ONCE, LESS, HALF), False),
            # Roots of UNDER on the rim, at a PLACE of DATA.
            (("up to", (row(1), row(1, -1)), (100, 1)), False), (("no answer", EDGE, ONCE, (row(0, 1), row(1, -2))), True), (("no answer", (), ONCE, (row(1), row(1, 1))), True),
            (("answer", (), ONCE, IDLE), True), (("no answer", EDGE, (4, 1), (row(0, 2), row(1))), True), (("no answer", EDGE, (1, 2), LINE), True),
            # Tame ones with roots of UNDER on the rim, and on the edge.
            (("tame", ((ZERO, (ONE, num(2))),)), True), (("not tame", ((ZERO, (ONE, num(3))),)), True), (("tame", ((HALF, (num(0, 5),)),)), True), (("tame", ((HALF, (num(0, 5), ONE)),)), False),
            (("not tame", ((HALF, (num(-1),)),)), True), (("tame", ((HALF, (num(-1),)),)), False), (("tame", ((ZERO, (ONE, MINUS)),)), True), (("tame", ((HALF, (num(1, -5),)),)), True), (("not tame", ((ZERO, (ONE,)), (HALF, (num(-1, 3),)))), True), (("tame", ((HALF, (ZERO, ZERO)),)), True),
            # Loops with a root of the loop row on the rim; bounds below, at and above the least.
            (("steadied", PROCESS, (row(Fraction(-1, 2)), row(1))), False), (("fails", PROCESS, (row(Fraction(-3, 2)), row(1)), "echo", (1000, 1)), True), (("keeps", PROCESS, BACK, "left", (9, 1)), True),
            (("fails", PROCESS, BACK, "left", (9 * 10 ** 20 - 1, 10 ** 20)), True), (("kept", SURE, "left", (4, 1)), True), (("not kept", SURE, "left", (4 * 10 ** 20 - 1, 10 ** 20)), True), (("kept", LATER, "left", (2, 1)), True),
            (("kept", (START, (), UNIT), "left", ONCE), True), (("kept", (START, (), UNIT), "left", (99, 100)), False),
        )
        for claim, truth in cases:
            paper = paper_for(claim)
            self.assertIs(paper is not None, truth, claim)
            found, other = settled(claim)
            self.assertEqual(found, claim if truth else opposite(claim))
            self.assertIs(accepts(found, other), True)

    def test_which_kind_of_paper(self):
        self.assertEqual(paper_for(("not one", FAR, ONCE))[0], "none")
        self.assertEqual(paper_for(("not one", TWO, ONCE))[0], "many")
        self.assertEqual(paper_for(("not many", FAR, ONCE))[0], "none")
        self.assertEqual(paper_for(("not many", EDGE, ONCE))[0], "one")
        self.assertIn(paper_for(("no value", FAR, ONCE, HALF, ONE))[0], ("none",))
        self.assertEqual(paper_for(("no value", TWO, ONCE, LESS, ONE))[0], "more")
        self.assertEqual(paper_for(("no answer", TWO, ONCE, LINE)), ("misses", 1))


class RefusalTest(unittest.TestCase):
    def test_no_claims(self):
        values = tuple(wrong_claims())
        for call in (paper_for, settled):
            check_refusals(self, call, (("claim", given(InvalidClaim, values), ("many", TWO, ONCE)),))
            refused(self, InvalidClaim, "given", 5, call, 5)


if __name__ == "__main__":
    unittest.main()
