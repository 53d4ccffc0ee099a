"""withinrim.console: each kind of line, each answer, each refusal, to the sign."""

import random
import unittest
from fractions import Fraction

from tests.support import BOOLS, HALF, ONE, STRANGE, Pair, data_from, num, refused, rim_one, row, shape_at, some_pair, some_places
from tests.test_texts import LONG, TOO_LONG, WRONG_NUMBER_TEXTS
from withinrim.answers import answer, told_back
from withinrim.books import Book
from withinrim.console import Console
from withinrim.data import joined
from withinrim.errors import InvalidLine
from withinrim.helds import is_up_to
from withinrim.pictures import values_picture
from withinrim.steps import standing
from withinrim.texts import number_text, quotient_text, row_text

ZERO = num(0)
NO_LINE, NO_ENTRIES = ("no such line",), ("no entries",)
QUOTIENTS = (((), row(1)), (row(0, 1), row(1)), (row(Fraction(1, 2)), row(1)), (row(2), row(1)), (row(1), row(1, -2)), (row(0, Pair(0, Fraction(1, 6))), row(1, Fraction(1, 2))))


def spoken(*lines):
    """A console to which lines were said."""
    console = Console()
    for line in lines:
        console.say(line)
    return console


def wrong(at):
    return ("wrong word " + str(at),)


def quotient_word(quotient):
    return quotient_text(quotient).replace(" ", ",")


class ConsoleTest(unittest.TestCase):
    def check(self, console, *pairs):
        for line, expected in pairs:
            found = console.say(line)
            self.assertIs(type(found), tuple, line)
            self.assertEqual(found, expected if isinstance(expected, tuple) else (expected,), line)


class AnswersTest(ConsoleTest):
    def test_a_session(self):
        self.check(Console(), ("put a 0 0", "many"), ("put b 1/2 1/4", "many"), ("at -1/2", "centre -3/28 square 25/196"), ("answer []/[1]", "[0 1/2]/[1]"),
                   ("back [0,1]/[1]", "no answer"), ("put a 1/3 0", "there already"), ("change b 1/2", "one"), ("one", "[0 1]/[1]"), ("standing", "one, rank 1 of 2"),
                   ("along -1/2 -1/2", "one"), ("undo", "many"), ("put c 2 0", wrong(2)), ("show me", NO_LINE))

    def test_an_empty_book(self):
        self.check(Console(), ("show", NO_ENTRIES), ("standing", "many, rank 0 of 0"), ("clashes", "no clash"), ("one", "not one"), ("undo", "nothing to undo"), ("at 1/3i", "centre 0 square 1"),
                   ("along 0 1", "one"), ("along 0 1/2", "many"), ("along 0 1+1i", "none"), ("answer [0,0,1i]/[1]", "[0 0 1i]/[1]"), ("back [1/2]/[1]", "[1/2]/[1]"), ("back [2]/[1]", "no answer"),
                   ("answer [2]/[1]", "not up to the bound"), ("draw 0 1", "*"), ("draw 0 2", ("**", "**")), ("strike a", "not there"), ("change a 0", "not there"))

    def test_entries(self):
        self.check(Console(), ("put ab -1/2+1/3i 1i 0 -7/2", "none"), ("put c 0 1/2", "none"), ("show", ("ab -1/2+1/3i: 1i 0 -7/2", "c 0: 1/2")), ("change ab 0 0 1", "none"),
                   ("show", ("ab -1/2+1/3i: 0 0 1", "c 0: 1/2")), ("strike c", "many"), ("show", ("ab -1/2+1/3i: 0 0 1",)), ("undo", "none"), ("undo", "none"), ("undo", "none"), ("undo", "many"),
                   ("undo", "nothing to undo"), ("show", NO_ENTRIES))

    def test_standings(self):
        console = spoken("put a 0 0")
        self.check(console, ("standing", "many, rank 1 of 1"), ("put b 1/2 0 0", "many"), ("standing", "many, rank 3 of 3"), ("change b 1/2 1", "one"), ("standing", "one, rank 1 of 3"),
                   ("change b 1/2 1/2", "none"), ("standing", "none of 3"), ("one", "not one"), ("at 1/3", "none"), ("draw 1/3 5", "none"), ("draw 0 1", "none"), ("along 0 0", "none"), ("along 1/2 1/2", "none"),
                   ("along 1/3 0", "none"), ("answer []/[1]", "not many"), ("back []/[1]", "not many"), ("clashes", "a b"), ("change a 1", "none"), ("clashes", ("a b",)))

    def test_clashes(self):
        console = spoken("put b 0 1", "put a 1/2 0", "put c -1/2 0", "put z 1/4 2")
        self.check(console, ("clashes", ("z", "b a", "b c")), ("strike z", "none"), ("clashes", ("b a", "b c")), ("strike b", "many"), ("clashes", "no clash"))

    def test_the_one(self):
        console = spoken("put a 0 0", "put b 1/2 1/2")
        self.check(console, ("one", "[0 1]/[1]"), ("at 1/3", "centre 1/3 square 0"), ("at 1/2", "centre 1/2 square 0"), ("along 1/2 1/2", "one"), ("along 1/2 1/3", "none"), ("along 0 0", "one"),
                   ("along 1/3 1/3", "one"), ("along 1/3 1/4", "none"), ("answer []/[1]", "not many"), ("answer [2]/[1]", "not many"), ("back [0,1]/[1]", "not many"),
                   ("draw 2/5 5", (" ... ", ".....", "...o.", ".....", " ... ")), ("standing", "one, rank 1 of 2"))
        console = spoken("put a 1/3 1i", "put b 0 1i 0 0")
        self.check(console, ("one", "[1i]/[1]"), ("standing", "one, rank 0 of 4"), ("along 1/2 1i", "one"), ("along 1/2 0", "none"))

    def test_many(self):
        console = spoken("put a 0 0", "put b 1/2 1/4")
        self.check(console, ("one", "not one"), ("along -1/2 1/4", "one"), ("along -1/2 6/25", "many"), ("along -1/2 -3/28+5/14i", "one"), ("along -1/2 -3/28+5/13i", "none"), ("along 0 0", "many"), ("along 0 1/9", "none"),
                   ("along 1/2 1/4", "many"), ("along 1/2 0", "none"), ("at 0", "centre 0 square 0"), ("at 1/2", "centre 1/4 square 0"), ("draw -1/2 4", (" .. ", ".*..", ".*..", " .. ")),
                   ("answer [2]/[1]", "not up to the bound"), ("answer [1]/[1,-2]", "not up to the bound"), ("back [2]/[1]", "no answer"), ("back [0,1/2]/[1]", "[]/[1]"))

    def test_bounds(self):
        console = spoken("put a 0 1", "put b 1/2 1")
        self.check(console, ("standing", "one, rank 0 of 2"), ("bound 4", "bound 4"), ("show", NO_ENTRIES), ("undo", "nothing to undo"), ("put a 0 1", "many"), ("standing", "many, rank 1 of 1"),
                   ("at 1/2", "centre 4/5 square 16/25"), ("answer [2]/[1]", "[1 2]/[1 1/2]"), ("bound 25/9", "bound 25/9"), ("undo", "nothing to undo"), ("put a 0 5/3", "one"), ("one", "[5/3]/[1]"),
                   ("draw 0 3", (" . ", "...", " . ")), ("bound 1/4", "bound 1/4"), ("put a 0 1/2i", "one"), ("bound 4", "bound 4"), ("along 0 2", "one"))
        # 5 / 3 is none of the signs of three there; 2 is one with the bound 9.
        self.check(spoken("bound 9", "put a 0 2"), ("draw 0 3", ("...", "..o", "...")))

    def test_seven_values(self):
        console = spoken("put a 0 0 0 0", "put b 1/2 1/8 3/4 3/2")
        self.check(console, ("standing", "one, rank 3 of 6"), ("along 1/3 1/27", "one"), ("along 1/3 1/28", "none"), ("put c 1/3 1/27", "too many"), ("undo", "many"), ("put b 1/2 0 0 0", "many"),
                   ("along 1/3 0", "many"), ("along 1/3 1/27", "none"), ("put c 1/3 0", "too many"), ("change a 0 0 0", "many"), ("undo", "many"), ("standing", "many, rank 6 of 6"))
        self.check(console, ("at 1/3", "centre 0 square 1/11390625"), ("along 1/3 1/3375", "one"), ("along 1/3 -1/3376i", "many"), ("along 1/3 1/3374i", "none"))

    def test_as_the_functions_tell(self):
        source = random.Random(291)
        for counts in ((1,), (1, 1), (2, 1), (3,), (1, 1, 1), (3, 2)):
            for degree in (0, 2, 5):
                data = data_from(rim_one(Pair(Fraction(3, 2)), some_places(source, degree, (2, 3))), shape_at(source, counts))
                bound, console, book = (9, 4), spoken("bound 9/4"), Book((9, 4))
                for name, (place, values) in zip("abc", data):
                    book.put(name, place, values)
                    words = " ".join(number_text(each) for each in (place, *values))
                    self.check(console, ("put " + name + " " + words, book.standing()))
                self.check(console, ("show", tuple(name + " " + number_text(place) + ": " + " ".join(map(number_text, values)) for name, place, values in book.entries())))
                word = book.standing()
                for place in (ZERO, HALF, num(Fraction(1, 5), Fraction(-3, 5))):
                    found = book.values_at(place)
                    self.check(console, ("at " + number_text(place), "none" if found is None else "centre " + number_text(found[0]) + " square " + number_text((found[1], (0, 1)))))
                    self.check(console, ("draw " + number_text(place) + " 7", ("none",) if word == "none" else tuple(values_picture(data, place, 7, bound).split("\n")[:-1])))
                    if all(place != each for each, _ in data):
                        for value in (ZERO, some_pair(source).number()) + (() if found is None else (found[0],)):
                            self.check(console, ("along " + number_text(place) + " " + number_text(value), standing(joined(data, place, value), bound)))
                for quotient in QUOTIENTS:
                    expected = "not many"
                    if word == "many":
                        expected = quotient_text(answer(data, quotient, bound)) if is_up_to(quotient, bound) else "not up to the bound"
                    self.check(console, ("answer " + quotient_word(quotient), expected))
                    if word == "many":
                        for some in (quotient, answer(data, QUOTIENTS[2], bound)):
                            back = told_back(data, some, bound)
                            self.check(console, ("back " + quotient_word(some), "no answer" if back is None else quotient_text(back)))
                one = book.the_one()
                self.check(console, ("one", "not one" if one is None else quotient_text(one)))


class BlanksTest(ConsoleTest):
    def test_blanks(self):
        console = Console()
        self.check(console, ("  put   a  0     0  ", "many"), ("put b 1/2   1/4 ", "many"), ("     show", ("a 0: 0", "b 1/2: 1/4")), ("standing   ", "many, rank 2 of 2"), (" undo ", "many"), ("   bound   4   ", "bound 4"),
                   (" draw  0  1 ", "*"))
        for line in ("", " ", "     "):
            self.check(console, (line, NO_LINE))

    def test_tabs_and_line_feeds_belong_to_words(self):
        console = Console()
        for line in ("\tshow", "show\t", "show\n", "\nshow", "\n", "\t", "show\x00", "show\r", "undo\u00a0", "put\ta 0 0", "standing\x0b"):
            self.check(console, (line, NO_LINE))
        for line, at in (("put a\t 0 0", 1), ("put a 0\n 0", 2), ("put a 0 0\n", 3), ("put \ta 0 0", 1), ("put a 0 0\t 0", 3), ("at 0\n", 1), ("at \t0", 1), ("strike a\r", 1), ("bound 1\n", 1), ("draw 0 5\n", 2)):
            self.check(console, (line, wrong(at)))
        self.check(console, ("put a 0\t0", NO_LINE), ("show", NO_ENTRIES), ("undo", "nothing to undo"))


class WrongLinesTest(ConsoleTest):
    def test_no_such_line(self):
        console = spoken("put a 0 0")
        for line in ("hello", "Show", "SHOW", "shows", "sho", "put", "puts a 0 0", "?", "0", "[]/[1]", "say show", "many", "none", "book", "clash", "draws 0 1", "answers []/[1]", "answer:", "undo,"):
            self.check(console, (line, NO_LINE))
        # Fewer or more words than told, whatever they are.
        for line in ("bound", "bound 1 1", "bound x y", "put a", "put a 0", "put a 0 0 0 0 0", "put x 9 9 9 9 9", "put 1", "change", "change a", "change a 0 0 0 0", "strike", "strike a b", "undo 1", "undo undo",
                     "show a", "standing 0", "clashes a", "one 1", "at", "at 0 0", "along", "along 0", "along 0 0 0", "answer", "answer [] / [1]", "answer [0 1]/[1]", "back", "back []/[1] 0", "draw", "draw 0", "draw 0 1 1",
                     "draw 9 9 9", "change A", "strike A B"):
            self.check(console, (line, NO_LINE))
        self.check(console, ("show", ("a 0: 0",)), ("undo", "many"), ("undo", "nothing to undo"))

    def test_wrong_words(self):
        console = spoken("put a 0 0")
        for line, at in (
                ("bound 0", 1), ("bound -1", 1), ("bound 1i", 1), ("bound 1+1i", 1), ("bound 2/4", 1), ("bound 01", 1), ("bound x", 1), ("bound 4/1", 1), ("bound +1", 1),
                ("put A 0 0", 1), ("put a1 0 0", 1), ("put abcdefghi 0 0", 1), ("put 0 0 0", 1), ("put b 1 0", 2), ("put b 2 0", 2), ("put b 3/5+4/5i 0", 2), ("put b x 0", 2), ("put b 0: 0", 2), ("put b 2/4 x", 2),
                ("put b 1/2 x", 3), ("put b 1/2 0 x", 4), ("put b 1/2 0 0 x", 5), ("put B 2 x", 1), ("put b 2 x", 2), ("put b 1/2 x y z", 3), ("put b 1/2 0 1i+1 z", 4),
                ("change A 0", 1), ("change a x", 2), ("change a 0 x", 3), ("change a 0 0 x", 4), ("change 1 x", 1), ("strike A", 1), ("strike a1", 1), ("strike -", 1),
                ("at 1", 1), ("at x", 1), ("at 1i", 1), ("at 2/4", 1), ("along 1 0", 1), ("along 0 x", 2), ("along 2 x", 1), ("along 1/2 01", 2),
                ("answer 0", 1), ("answer []", 1), ("answer [0]/[1]", 1), ("answer [1]/[2]", 1), ("answer [1,1]/[1,1]", 1), ("answer [0,1],/[1]", 1), ("answer ,[0,1]/[1]", 1), ("answer [0,,1]/[1]", 1),
                ("answer [0,1,]/[1]", 1), ("answer [,1]/[1]", 1), ("answer [0;1]/[1]", 1), ("answer []/[]", 1), ("back x", 1), ("back [1]/[0,1]", 1), ("back [1]/[1,0]", 1), ("back []/[1]x", 1),
                ("draw 1 5", 1), ("draw 0 0", 2), ("draw 0 61", 2), ("draw 0 -1", 2), ("draw 0 05", 2), ("draw 0 5/2", 2), ("draw 0 5i", 2), ("draw 0 +5", 2), ("draw 0 x", 2), ("draw x x", 1), ("draw 0 100", 2), ("draw 0 1/1", 2)):
            self.check(console, (line, wrong(at)))
        for text in WRONG_NUMBER_TEXTS:
            if text and " " not in text:
                self.check(console, ("along 0 " + text, wrong(2)), ("put b 1/2 0 " + text, wrong(4)), ("put b " + text + " 0", wrong(2)), ("at " + text, wrong(1)))
        self.check(console, ("show", ("a 0: 0",)), ("undo", "many"), ("undo", "nothing to undo"))

    def test_figures(self):
        console = Console()
        self.check(console, ("put a 0 " + LONG, "none"), ("put b 1/" + LONG + " 0", "none"), ("put c 1/2 " + TOO_LONG, wrong(3)), ("put c 1/" + TOO_LONG + " 0", wrong(2)), ("bound " + TOO_LONG, wrong(1)),
                   ("answer [" + TOO_LONG + "]/[1]", wrong(1)), ("answer [" + LONG + "]/[1]", "not many"), ("draw 0 " + TOO_LONG, wrong(2)), ("show", ("a 0: " + LONG, "b 1/" + LONG + ": 0")),
                   ("bound 1/" + LONG, "bound 1/" + LONG), ("bound " + LONG, "bound " + LONG), ("along 0 " + LONG, "none"))

    def test_refusals_in_their_order(self):
        console = spoken("put a 0 0 0 0", "put b 1/2 0 0 0")
        self.check(console, ("put a 0 0", "there already"), ("put a 1/3 0", "there already"), ("put c 0 0", "there already"), ("put c 1/2 0", "there already"), ("put c 1/3 0", "too many"), ("put c 1/3 0 0 0", "too many"),
                   ("put a 2 0", wrong(2)), ("put a 0 x", wrong(3)), ("put A 0 0", wrong(1)), ("put a 0 0 0 0 0", NO_LINE), ("change c 0", "not there"), ("change c 0 0 0", "not there"), ("change c x", wrong(2)),
                   ("strike c", "not there"), ("strike C", wrong(1)), ("standing", "many, rank 6 of 6"))
        console = spoken("put a 0 0 0 0", "put b 1/2 0 0", "put c 1/3 0")
        self.check(console, ("change c 0 0", "too many"), ("change b 0 0 0", "too many"), ("change b 0 0 x", wrong(4)), ("change d 0 0 0", "not there"), ("change a 0 0", "many"), ("change c 0 0", "many"), ("undo", "many"), ("undo", "many"),
                   ("show", ("a 0: 0 0 0", "b 1/2: 0 0", "c 1/3: 0")))
        # For the standing "none" all words are looked at first.
        console = spoken("put a 0 2")
        self.check(console, ("at 2", wrong(1)), ("at 0", "none"), ("draw 0 61", wrong(2)), ("draw 2 1", wrong(1)), ("draw 0 1", "none"), ("answer x", wrong(1)), ("answer [2]/[1]", "not many"), ("back [1,1]/[1,1]", wrong(1)),
                   ("back [2]/[1]", "not many"), ("along 2 0", wrong(1)), ("along 0 2", "none"), ("along 1/2 0", "none"))

    def test_a_refused_line_changes_nothing(self):
        lines = ("put a 1/2 0", "put c 0 0", "put c 1/3 0 0 0", "change b 0", "strike b", "at 2", "bound 0", "bound x", "nothing", "", "put", "answer [2]/[1]", "back [2]/[1]", "draw 0 61", "at 1/2", "show", "standing",
                 "clashes", "one", "along 0 0")
        for deeds in (("put a 0 0 0", "put d 1/4 0 0 0"), ("put a 0 0 0", "put d 1/4 0 0 0", "strike a", "undo", "change a 0 0", "undo")):
            console, other = spoken(*deeds), spoken(*deeds)
            for line in lines:
                console.say(line)
                self.assertEqual(console.say("show"), other.say("show"), line)
            for _ in range(6):
                self.assertEqual(console.say("undo"), other.say("undo"))
                self.assertEqual(console.say("show"), other.say("show"))

    def test_consoles_stand_apart(self):
        one, other = spoken("bound 4", "put a 0 1"), Console()
        self.check(other, ("show", NO_ENTRIES), ("at 0", "centre 0 square 1"))
        self.check(one, ("show", ("a 0: 1",)), ("standing", "many, rank 1 of 1"))

    def test_no_lines(self):
        console = Console()
        for value in tuple(each for each in STRANGE if not isinstance(each, str)) + BOOLS + (0, 1, (), ONE, ("show",), ["show"], b"show"):
            refused(self, InvalidLine, "given", value, console.say, value)
            refused(self, InvalidLine, "given", value, console.say, line=value)
        self.assertEqual(console.say(line="show"), NO_ENTRIES)


class RowsTest(ConsoleTest):
    def test_rows_with_commas(self):
        console = Console()
        some = row(Pair(Fraction(1, 5), Fraction(-1, 7)), 0, Fraction(-1, 3))
        self.assertEqual(console.say("answer " + row_text(some).replace(" ", ",") + "/[1,1/2]"), (row_text(some) + "/[1 1/2]",))
        self.assertEqual(console.say("back " + row_text(some).replace(" ", ",") + "/[1,1/2]"), (row_text(some) + "/[1 1/2]",))


if __name__ == "__main__":
    unittest.main()
