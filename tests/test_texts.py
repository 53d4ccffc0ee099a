"""withinrim.texts: the texts of NUMBERs, ROWs, QUOTIENTs and DATA, and how they are read."""

import random
import unittest
from fractions import Fraction

from tests.support import (
    BOOLS, HALF, ONE, SHAPES, STRANGE, WRONG_DATA, WRONG_NUMBERS, WRONG_QUOTIENTS, WRONG_ROWS, Pair, check_refusals, data_from,
    given, indexed, made_quotient, num, refused, row, shape_at, some_pair, some_places, some_row,
)
from withinrim.errors import InvalidData, InvalidNumber, InvalidQuotient, InvalidRow, InvalidText
from withinrim.data import is_data
from withinrim.quotients import is_quotient
from withinrim.texts import (
    data_text, number_text, quotient_text, read_data, read_number, read_quotient, read_row, row_text,
)

ZERO = num(0)
LINE = (row(0, 1), row(1))
NO_TEXTS = tuple(each for each in STRANGE if not isinstance(each, str)) + BOOLS + (0, 1, (), ONE, b"0", ["0"], ("0",))
LONG, TOO_LONG = "7" * 400, "7" * 401

# Texts, and the NUMBERs as whose texts they stand.
NUMBERS = (
    ("0", num(0)), ("1", num(1)), ("-1", num(-1)), ("12", num(12)), ("-1/2", num(Fraction(-1, 2))), ("1i", num(0, 1)), ("-1i", num(0, -1)),
    ("1/2-3i", num(Fraction(1, 2), -3)), ("-1/2+1/3i", num(Fraction(-1, 2), Fraction(1, 3))), ("-7/3i", num(0, Fraction(-7, 3))), ("10+10i", num(10, 10)),
    ("-10-10i", num(-10, -10)), ("3/4+5i", num(Fraction(3, 4), 5)), ("3-1/100i", num(3, Fraction(-1, 100))), (LONG, num(int(LONG))), ("-" + LONG + "i", num(0, -int(LONG))),
    ("-1/" + LONG + "+" + LONG + "i", num(Fraction(-1, int(LONG)), int(LONG))), ("90/7", num(Fraction(90, 7))),
)
WRONG_NUMBER_TEXTS = (
    "", " ", "-", "+", "i", "-i", "+i", "/", "-0", "+1", "00", "01", "-01", "1.5", "1e3", "0x1", "1_0", "one", "1 ", " 1", "1\n", "\t1", "1/1", "2/4", "0/5", "-0/5", "0/1",
    "1/0", "0/0", "1/-2", "-1/-2", "1//2", "1/", "/2", "1/2/3", "1/02", "01/2", "1/+2", "3/3", "6/4", "0i", "-0i", "+1i", "1+i", "1-i", "1i+1", "0+1i", "0-1i", "-0+1i",
    "1+0i", "1-0i", "1+-2i", "1--2i", "1-+2i", "1++2i", "1+2", "1-2", "1+2ii", "1+2i ", "1 +2i", "1+ 2i", "1+2 i", "1+02i", "1+2/4i", "2/4+1i", "1i1", "i1", "1+2i+3i", "1+2+3i",
    "1I", "1j", "[1]", "1:", "1,", "\u0661", "\u00b2", "\uff11", "1\u0661", "1/\u00b2", "\u22121", TOO_LONG, "-" + TOO_LONG, "1/" + TOO_LONG, TOO_LONG + "i", "1+" + TOO_LONG + "i",
    TOO_LONG + "/2", "0" + LONG, "1/0" + LONG, "1-1/" + TOO_LONG + "i", "--1", "1-", "1+", "-1/2-", "+", "1/2-3", "(1)", "1*i", "nan", "inf", "None", "1\x00", "0" * 401,
)


class NumberTest(unittest.TestCase):
    def test_by_hand(self):
        for text, number in NUMBERS:
            self.assertEqual(number_text(number), text)
            self.assertEqual(read_number(text), number)
        self.assertEqual(number_text(number=ONE), "1")
        self.assertEqual(read_number(text="1/2-3i"), num(Fraction(1, 2), -3))

    def test_there_and_back(self):
        source, seen = random.Random(261), {}
        for _ in range(500):
            number = some_pair(source, 12, 9).number()
            text = number_text(number)
            self.assertEqual(read_number(text), number)
            self.assertEqual(seen.setdefault(text, number), number)

    def test_wrong_ones(self):
        for text in WRONG_NUMBER_TEXTS:
            refused_text(self, 0, 0, read_number, text)

    def test_each_text_of_few_signs(self):
        # Of all texts of up to four signs just those that are the text of something are read.
        texts = [""]
        for _ in range(4):
            texts += [text + sign for text in texts if len(text) == len(texts[-1]) for sign in "012-+/i"]
        found = 0
        for text in texts:
            try:
                number = read_number(text)
            except InvalidText as caught:
                self.assertEqual((caught.line, caught.word), (0, 0))
            else:
                self.assertEqual(number_text(number), text)
                found += 1
        self.assertEqual(found, len({number_text(number) for number in short_numbers()}))

    def test_longer_ones_are_told_all_the_same(self):
        number = num(10 ** 3999, Fraction(-1, 10 ** 500))
        self.assertEqual(number_text(number), "1" + "0" * 3999 + "-1/1" + "0" * 500 + "i")
        refused_text(self, 0, 0, read_number, number_text(number))


def short_numbers():
    """All NUMBERs whose texts have up to four signs, of the figures 0, 1, 2."""
    wholes = [n for n in range(2223) if set(str(n)) <= set("012")]
    parts = {Fraction(n, m) * sign for n in wholes for m in wholes[1:] if len(str(n) + str(m)) < 6 for sign in (1, -1)}
    parts = [each for each in parts if len(str(each)) <= 4]
    for a in parts:
        for b in [0] + [each for each in parts if a == 0 or len(str(a)) + len(str(each)) < 4]:
            text = number_text(num(a, b))
            if len(text) <= 4 and set(text) <= set("012-+/i"):
                yield num(a, b)


def refused_text(case, line, word, call, text):
    """Assert that a text is refused with this line and word."""
    with case.assertRaises(InvalidText, msg=repr(text)) as caught:
        call(text)
    case.assertIs(type(caught.exception), InvalidText)
    case.assertEqual((caught.exception.line, caught.exception.word), (line, word), repr(text))


ROWS = (("[]", ()), ("[1]", row(1)), ("[-1/2 0 1]", row(Fraction(-1, 2), 0, 1)), ("[0 1i]", row(0, Pair(0, 1))),
        ("[1/2-3i -1/2+1/3i]", row(Pair(Fraction(1, 2), -3), Pair(Fraction(-1, 2), Fraction(1, 3)))), ("[" + LONG + "]", row(int(LONG))))
WRONG_ROW_TEXTS = (
    "", "[", "]", "][", "[ ]", "[1", "1]", "1", "[1 ]", "[ 1]", "[1  2]", "[0]", "[1 0]", "[0 0]", "[1,2]", "[1, 2]", "[1\t2]", "[1\n2]", "[[1]]", "[1][2]", "[1] ", " [1]",
    "[1]\n", "(1)", "[2/4]", "[1 2/4]", "[01]", "[a]", "[1 i]", "[]]", "[[]", "[] ", "[-0]", "[1 +2]", "[" + TOO_LONG + "]", "[1 " + TOO_LONG + "]", "[]/[1]", "[1]/[1]", "[\u0661]",
)
QUOTIENTS = (("[]/[1]", ((), row(1))), ("[0 1]/[1]", LINE), ("[1 2]/[1 -1/2i]", (row(1, 2), row(1, Pair(0, Fraction(-1, 2))))), ("[-1/3]/[1 0 1]", (row(Fraction(-1, 3)), row(1, 0, 1))))
WRONG_QUOTIENT_TEXTS = (
    "", "/", "[]", "[1]", "[]/[]", "[1]/[]", "[1]/[2]", "[1]/[0 1]", "[]/[1 1]", "[1 1]/[1 1]", "[0 1]/[1 0 0 0]", "[0]/[1]", "[0 1]/[1] ", " [0 1]/[1]", "[0 1] /[1]", "[0 1]/ [1]",
    "[0,1]/[1]", "[0 1]//[1]", "[0 1]/[1]/[1]", "[0 1]/[1]]", "[[0 1]/[1]", "0/1", "[0 1]/1", "0 1/[1]", "[0 1]\\[1]", "[0 1]/[1]\n", "[0 1][1]", "[-1 0 1]/[1 1]", "[0 1]/[-1]", "[1/2]/[1/2]",
    "[" + TOO_LONG + "]/[1]", "]/[", "[]/[1 0]", "[1/0]/[1]",
)


class RowTest(unittest.TestCase):
    def test_rows(self):
        for text, some in ROWS:
            self.assertEqual(row_text(some), text)
            self.assertEqual(read_row(text), some)
        self.assertEqual([row_text(row=()), read_row(text="[]")], ["[]", ()])
        source = random.Random(262)
        for _ in range(100):
            some = some_row(source, 6)
            self.assertEqual(read_row(row_text(some)), some)
            self.assertEqual(row_text(some), "[" + " ".join(number_text(each) for each in some) + "]")
        self.assertEqual(len(read_row(row_text((ONE,) * 300))), 300)

    def test_wrong_rows(self):
        for text in WRONG_ROW_TEXTS:
            refused_text(self, 0, 0, read_row, text)
        for text in WRONG_NUMBER_TEXTS:
            if text and " " not in text.strip():
                refused_text(self, 0, 0, read_row, "[" + text + "]")
                refused_text(self, 0, 0, read_row, "[1 " + text + " 1]")

    def test_quotients(self):
        for text, quotient in QUOTIENTS:
            self.assertIs(is_quotient(quotient), True)
            self.assertEqual(quotient_text(quotient), text)
            self.assertEqual(read_quotient(text), quotient)
        self.assertEqual([quotient_text(quotient=LINE), read_quotient(text="[0 1]/[1]")], ["[0 1]/[1]", LINE])
        source = random.Random(263)
        for _ in range(100):
            top, under = some_row(source, 4), (some_pair(source).number(),) + some_row(source, 3)
            if under[0] == ZERO or not top:
                continue
            quotient = made_quotient(top, under)
            if is_quotient(quotient):
                self.assertEqual(read_quotient(quotient_text(quotient)), quotient)
                self.assertEqual(quotient_text(quotient), row_text(quotient[0]) + "/" + row_text(quotient[1]))

    def test_wrong_quotients(self):
        for text in WRONG_QUOTIENT_TEXTS:
            refused_text(self, 0, 0, read_quotient, text)
        for text in WRONG_ROW_TEXTS:
            if "/[" not in text:
                refused_text(self, 0, 0, read_quotient, text + "/[1]")
                refused_text(self, 0, 0, read_quotient, "[5]/" + text)


class DataTest(unittest.TestCase):
    def test_by_hand(self):
        two = ((ZERO, (ZERO,)), (HALF, (num(Fraction(1, 4)),)))
        self.assertEqual(data_text(two), "0: 0\n1/2: 1/4\n")
        self.assertEqual(data_text(data=()), "")
        self.assertEqual(read_data(text=""), ())
        self.assertEqual(read_data("0: 0\n1/2: 1/4\n"), two)
        self.assertEqual(read_data("-1/2+1/3i: 5 7i -1/2\n"), ((num(Fraction(-1, 2), Fraction(1, 3)), (num(5), num(0, 7), num(Fraction(-1, 2)))),))
        self.assertEqual(read_data("0: " + LONG + "\n"), ((ZERO, (num(int(LONG)),)),))

    def test_there_and_back(self):
        source = random.Random(264)
        for counts in SHAPES * 3:
            shape = shape_at(source, counts)
            data = data_from((row(*[some_pair(source, 4, 3) for _ in range(4)], 1), row(1, Pair(0, Fraction(1, 5)))), shape)
            self.assertIs(is_data(data), True)
            self.assertEqual(read_data(data_text(data)), data)
            self.assertEqual(data_text(data), "".join(number_text(place) + ": " + " ".join(map(number_text, values)) + "\n" for place, values in data))

    def test_wrong_words(self):
        for text, line, word in (
                # No lines, empty words.
                ("\n", 0, 0), ("\n\n", 0, 0), (" \n", 0, 0), (" ", 0, 0), ("0: 0\n\n", 1, 0), ("\n0: 0\n", 0, 0), (" 0: 0\n", 0, 0), ("0: \n", 0, 1), ("0:  0\n", 0, 1), ("0: 0 \n", 0, 2),
                ("0: 0  1\n", 0, 2), ("0: 0\n1/2: \n", 1, 1), ("0: 0 1 2 \n", 0, 4), ("0: 0 1 2  3\n", 0, 4),
                # Lines without a VALUE, without a line feed.
                ("0:\n", 0, 1), ("0: 0\n1/2:\n", 1, 1), ("0:", 0, 1), ("0: 0", 0, 2), ("0: 0 1", 0, 3), ("0: 0 1 2", 0, 4), ("0: 0\n1/2:", 1, 1), ("0: 0\n1/2: 1/4", 1, 2),
                ("0: 0\n1/2: 2/4\n", 1, 1), ("0: 0\n1/2: 2/4", 1, 1), ("0:\n1/2: 1", 0, 1), ("0: 0 ", 0, 2),
                # First words.
                ("0 0\n", 0, 0), ("0 : 0\n", 0, 0), (": 0\n", 0, 0), (":0\n", 0, 0), ("0:: 0\n", 0, 0), ("0:0\n", 0, 0), ("1: 0\n", 0, 0), ("2: 0\n", 0, 0), ("1i: 0\n", 0, 0), ("3/5+4/5i: 0\n", 0, 0),
                ("2/4: 0\n", 0, 0), ("-0: 0\n", 0, 0), ("0; 0\n", 0, 0), ("x: 0\n", 0, 0), ("0:\t0\n", 0, 0), ("0: 0\t1\n", 0, 1), ("0: 0\r\n", 0, 1), ("0:", 0, 1), ("x", 0, 0), ("0", 0, 0),
                ("1/" + LONG + ": 0\n1/" + TOO_LONG + ": 0\n", 1, 0), ("0: " + TOO_LONG + "\n", 0, 1),
                # A PLACE for the second time.
                ("0: 0\n0: 0\n", 1, 0), ("0: 0\n1/2: 1\n0: 1\n", 2, 0), ("0: 0\n0:\n", 1, 0), ("0: 0\n0", 1, 0), ("1/2i: 1\n-1/2i: 1\n1/2i: 2\n", 2, 0), ("0: 0\n0: x\n", 1, 0),
                # A fourth VALUE in a line, a seventh one in all.
                ("0: 0 1 2 3\n", 0, 4), ("0: 0 1 2 x\n", 0, 4), ("0: 0 1 x 3\n", 0, 3), ("0: 0 1 2\n1/2: 0 1 2\n1/3: 0\n", 2, 1), ("0: 0 1 2\n1/2: 0 1\n1/3: 0 1\n", 2, 2),
                ("0: 0 1 2\n1/2: 0 1 2\n1/3:\n", 2, 1), ("0: 0 1 2\n1/2: 0 1 2\n1/3\n", 2, 0), ("0: 0 1 2\n1/2: 0 1 2\n1/2: 0\n", 2, 0), ("0: 0 1 2\n1/2: 0 1 2\n1/3: x\n", 2, 1),
                ("0: 0 1 2\n1/2: 0 1 2 3\n", 1, 4), ("0: 0\n1/2: 0\n1/3: 0\n1/4: 0\n1/5: 0\n1/6: 0 0\n", 5, 2),
                # A seventh line.
                (six_lines() + "1/9: 0\n", 6, 0), (six_lines() + "1/9:\n", 6, 0), (six_lines() + "x\n", 6, 0), (six_lines() + "\n", 6, 0), (six_lines() + "1/9: 0", 6, 0), (six_lines() + "0: 0\n", 6, 0),
                (six_lines() + "x", 6, 0),
                # The first wrong word of several.
                ("x: x\ny: y\n", 0, 0), ("0: x\ny: y\n", 0, 1), ("0: 0 x y\n", 0, 2), ("0: 0\nx: 0\n0: 0\n", 1, 0), ("0: 1/0 0 0 0\n", 0, 1), ("\u0661: 0\n", 0, 0), ("0: \u0661\n", 0, 1)):
            refused_text(self, line, word, read_data, text)

    def test_six_lines_and_six_values(self):
        self.assertEqual(len(read_data(six_lines())), 6)
        self.assertEqual(len(read_data("0: 0 1 2\n1/2: 0 1 2\n")), 2)
        refused_text(self, 5, 2, read_data, six_lines()[:-1])

    def test_wrong_numbers_as_words(self):
        for text in WRONG_NUMBER_TEXTS:
            if " " not in text and "\n" not in text:
                refused_text(self, 0, 2, read_data, "0: 1 " + text + "\n")
                refused_text(self, 1, 0, read_data, "0: 1\n" + text + ": 1\n")

    def test_each_text_that_is_read_is_the_text_of_it(self):
        source = random.Random(265)
        found = 0
        for _ in range(4000):
            text = list("0: 1/2 1i\n1/3: -2\n")
            for _ in range(source.randint(0, 2)):
                at = source.randrange(len(text))
                text[at:at + source.randint(0, 2)] = source.choice(("", " ", "\n", ":", "1", "-", "i", "/", "0"))
            text = "".join(text)
            try:
                data = read_data(text)
            except InvalidText:
                continue
            found += 1
            self.assertIs(is_data(data), True)
            self.assertEqual(data_text(data), text)
        self.assertGreater(found, 100)


def six_lines():
    return "0: 0\n" + "".join(f"1/{k}: {k}\n" for k in range(2, 7))


class RefusalTest(unittest.TestCase):
    def test_wrong_arguments(self):
        check_refusals(self, number_text, (("number", given(InvalidNumber, WRONG_NUMBERS), ONE),))
        check_refusals(self, row_text, (("row", given(InvalidRow, WRONG_ROWS), (ONE,)),))
        check_refusals(self, quotient_text, (("quotient", given(InvalidQuotient, WRONG_QUOTIENTS), LINE),))
        check_refusals(self, data_text, (("data", indexed(InvalidData, WRONG_DATA), ((ZERO, (ONE,)),)),))

    def test_no_texts(self):
        for value in NO_TEXTS:
            for call in (read_number, read_row, read_quotient, read_data):
                refused(self, InvalidText, "line", None, call, value)
                refused(self, InvalidText, "word", None, call, value)
                refused(self, InvalidText, "word", None, call, text=value)

    def test_places(self):
        source = random.Random(266)
        for place in some_places(source, 20):
            text = number_text(place.number())
            self.assertEqual(read_data(text + ": 1\n"), ((place.number(), (ONE,)),))


if __name__ == "__main__":
    unittest.main()
