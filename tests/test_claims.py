"""withinrim.claims: what claims are, whatever is passed, and their opposites."""

import unittest
from fractions import Fraction

from tests.support import (
    BOOLS, HALF, ONE, OPPOSITES, STRANGE, SURE, WRONG_BOUNDS, WRONG_DATA, WRONG_KINDS, WRONG_NUMBERS, WRONG_PLACES, WRONG_PLANTS,
    WRONG_PROCESSES, WRONG_QUOTIENTS, WRONG_TABLES, all_claims, check_refusals, given, num, refused, row,
)
from withinrim.claims import is_claim, opposite
from withinrim.errors import InvalidClaim

ZERO = num(0)
LINE, IDLE, BACK = (row(0, 1), row(1)), ((), row(1)), (row(-1), row(1))
TWO, ONCE = ((ZERO, (ZERO,)), (HALF, (num(Fraction(1, 4)),))), (1, 1)
CROSS = (row(0, 1), row(1, 0))
PROCESS = (row(0, -2), row(1, -2))

# For each pair of words what they are about, and what is wrong at each place of it.
DATAS, TABLES, PLANTS = [tuple(value for value, _ in each) for each in (WRONG_DATA, WRONG_TABLES, WRONG_PLANTS)]
ABOUTS = (
    ("up to", (LINE, ONCE), (WRONG_QUOTIENTS, WRONG_BOUNDS)),
    ("some", (TWO, ONCE), (DATAS, WRONG_BOUNDS)),
    ("one", (TWO, ONCE), (DATAS, WRONG_BOUNDS)),
    ("many", (TWO, ONCE), (DATAS, WRONG_BOUNDS)),
    ("answer", (TWO, ONCE, LINE), (DATAS, WRONG_BOUNDS, WRONG_QUOTIENTS)),
    ("value", (TWO, ONCE, HALF, ONE), (DATAS, WRONG_BOUNDS, WRONG_PLACES, WRONG_NUMBERS)),
    ("nonnegative", (CROSS,), (TABLES,)),
    ("tame", (TWO,), (DATAS,)),
    ("steadied", (PROCESS, BACK), (WRONG_PROCESSES, WRONG_QUOTIENTS)),
    ("keeps", (PROCESS, BACK, "left", ONCE), (WRONG_PROCESSES, WRONG_QUOTIENTS, WRONG_KINDS, WRONG_BOUNDS)),
    ("kept", (SURE, "echo", ONCE), (PLANTS, WRONG_KINDS, WRONG_BOUNDS)),
)


def wrong_claims():
    """What is no claim: wrong words, too little, too much, and what is wrong at each place."""
    yield from STRANGE + BOOLS + (0, 1, (), ("many",), ("many", TWO), ("up to",), "many", ("nonnegative",), (CROSS,), (TWO, ONCE), ["many", TWO, ONCE])
    opposites = dict(OPPOSITES)
    for word, about, wrong in ABOUTS:
        for each in (word, opposites[word]):
            yield (each, *about, ONCE)
            yield (each, *about[:-1])
            yield (each, about)
            yield [each, *about]
            yield about
            yield (*about, each)
            for other in (each.upper(), each + " ", " " + each, each.encode(), (each,), [each], None, True, 0, "", each.replace(" ", "_") + "_", each.capitalize()):
                yield (other, *about)
            for at, values in enumerate(wrong):
                for value in values:
                    yield (each, *about[:at], value, *about[at + 1:])


class ClaimTest(unittest.TestCase):
    def test_claims(self):
        for word, about, _ in ABOUTS:
            for each in (word, dict(OPPOSITES)[word]):
                self.assertIs(is_claim((each, *about)), True)
        for claim, _ in all_claims(311):
            self.assertIs(is_claim(value=claim), True)

    def test_whatever_is_passed(self):
        many = 0
        for value in wrong_claims():
            self.assertIs(is_claim(value), False, value)
            many += 1
        self.assertGreater(many, 1000)

    def test_edges(self):
        six = tuple((num(Fraction(k, 9)), (ONE,)) for k in range(6))
        for claim in (("some", (), ONCE), ("tame", ()), ("nonnegative", ()), ("value", six, ONCE, num(Fraction(8, 9)), num(10 ** 50)), ("value", six, ONCE, ZERO, ONE), ("answer", (), (1, 10 ** 60), IDLE),
                      ("steadied", IDLE, IDLE), ("keeps", IDLE, (row(1), row(1, -3)), "echo", ONCE), ("up to", (row(1), row(1, -1)), ONCE), ("kept", (((ZERO, 3), (HALF, 3)), (), IDLE[1:] * 2), "left", ONCE)):
            self.assertIs(is_claim(claim), True, claim)
        for claim in (("some", (), (0, 1)), ("value", (), ONCE, ONE, ZERO), ("keeps", LINE[::-1], IDLE, "left", ONCE), ("kept", SURE, "right", ONCE), ("some", six + six[:1], ONCE)):
            self.assertIs(is_claim(claim), False, claim)


class OppositeTest(unittest.TestCase):
    def test_there_and_back(self):
        for word, about, _ in ABOUTS:
            other = dict(OPPOSITES)[word]
            self.assertEqual(opposite((word, *about)), (other, *about))
            self.assertEqual(opposite(claim=(other, *about)), (word, *about))
        for claim, _ in all_claims(312):
            self.assertEqual(opposite(opposite(claim)), claim)
            self.assertNotEqual(opposite(claim)[0], claim[0])
            self.assertEqual(opposite(claim)[1:], claim[1:])
            self.assertIs(is_claim(opposite(claim)), True)


class RefusalTest(unittest.TestCase):
    def test_no_claims(self):
        values = tuple(wrong_claims())
        check_refusals(self, opposite, (("claim", given(InvalidClaim, values), ("many", TWO, ONCE)),))
        refused(self, InvalidClaim, "given", None, opposite, None)


if __name__ == "__main__":
    unittest.main()
