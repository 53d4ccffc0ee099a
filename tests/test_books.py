"""withinrim.books: deeds, what a book tells of its bound and its DATA, clashes, idle entries, twins."""

import itertools
import random
import unittest
from fractions import Fraction

from tests.support import (
    BOOLS, HALF, LESS, ONE, STRANGE, WRONG_BOUNDS, WRONG_NUMBERS, WRONG_PLACES, Pair, check_refusals, data_from, frac, given,
    indexed, num, pair, refused, rim_one, row, shape_at, some_pair, some_places,
)
from withinrim.answers import goes_along, the_one, values_at
from withinrim.books import Book
from withinrim.data import table_of
from withinrim.errors import Alike, InvalidFraction, InvalidName, InvalidNumber, InvalidPlace, InvalidValues, NotNow, TooMany
from withinrim.squares import rank_of
from withinrim.steps import standing

ZERO, QUARTER = num(0), num(Fraction(1, 4))
LINE = (row(0, 1), row(1))
WRONG_NAMES = tuple(each for each in STRANGE if each != "") + BOOLS + (
    0, "", " ", "A", "aB", "a b", "a ", " a", "a1", "abcdefghi", "a" * 100, "a_b", "a-b", "\u00e9", "\u0430", "a\n", "\n", "a\t", "ab.", b"a", ("a",), ["a"], "zZ", "\u00df",
)
WRONG_VALUES = tuple((each, None) for each in STRANGE if type(each) is not tuple) + (
    (True, None), (0, None), ((), None), ((ONE,) * 4, None), ((None,) * 4, None), ([ONE], None), ("ab", None), ((None,), 0), ((ONE, None), 1), (ONE, 0),
    ((ONE, ONE, (1, 1)), 2), ((ONE, ((2, 2), (0, 1))), 1), ((ONE, True), 1), ((1, 2), 0), (([ONE],), 0), (((ONE,),), 0), ((ONE, list(ONE), None), 1),
)


def without_any(book):
    """All that a book tells of its entries alone."""
    return book.entries(), book.data(), book.bound(), book.standing(), book.rank(), book.the_one(), book.clashes()


def check_from_nothing(case, book, entries, bound):
    """Assert that a book tells what is told of the bound and of the entries, from nothing."""
    data = tuple((place, values) for _, place, values in entries)
    case.assertEqual(book.entries(), tuple(entries))
    case.assertEqual(book.data(), data)
    case.assertEqual(book.bound(), bound)
    word = standing(data, bound)
    case.assertEqual(book.standing(), word)
    case.assertEqual(book.rank(), None if word == "none" else rank_of(table_of(data, bound)))
    case.assertEqual(book.the_one(), the_one(data, bound))
    for place in (ZERO, HALF, num(Fraction(1, 7), Fraction(-2, 7))):
        case.assertEqual(book.values_at(place), values_at(data, place, bound))
        for number in (ZERO, HALF, num(0, 1), num(Fraction(9, 10), Fraction(9, 10))):
            case.assertIs(book.goes_along(place, number), goes_along(data, place, number, bound))
    case.assertEqual(book.clashes(), own_clashes(entries, bound))
    if word == "one":
        case.assertEqual(book.idle(), tuple(name for name, _, _ in entries if standing(
            tuple((place, values) for other, place, values in entries if other != name), bound) == "one"))
    else:
        refused(case, NotNow, None, None, book.idle)


def own_clashes(entries, bound):
    """All least clashes, by trying each lot."""
    clashing = []
    for many in range(len(entries) + 1):
        for lot in itertools.combinations(entries, many):
            if standing(tuple((place, values) for _, place, values in lot), bound) == "none":
                clashing.append(tuple(name for name, _, _ in lot))
    least = [lot for lot in clashing if not any(set(other) < set(lot) for other in clashing)]
    return tuple(sorted(least, key=lambda lot: (len(lot), lot)))


def filled(entries, bound=(1, 1)):
    book = Book(bound)
    for name, place, values in entries:
        book.put(name, place, values)
    return book


class DeedsTest(unittest.TestCase):
    def test_by_hand(self):
        book = Book()
        self.assertEqual([book.entries(), book.data(), book.bound(), book.standing(), book.rank(), book.the_one(), book.clashes(), book.undo()],
                         [(), (), (1, 1), "many", 0, None, (), False])
        self.assertIsNone(book.put("a", ZERO, (ZERO,)))
        self.assertIsNone(book.put(name="b", place=HALF, values=(HALF,)))
        self.assertEqual([book.standing(), book.rank(), book.the_one(), book.idle()], ["one", 1, LINE, ()])
        book.put("c", LESS, (ONE,))
        self.assertEqual([book.standing(), book.rank(), book.clashes()], ["none", None, (("a", "c"), ("b", "c"))])
        self.assertIs(book.undo(), True)
        book.put("d", LESS, (LESS,))
        self.assertEqual([book.idle(), book.rank(), book.clashes()], [("a", "b", "d"), 1, ()])
        self.assertIsNone(book.change(name="b", values=(QUARTER,)))
        self.assertEqual([book.standing(), book.undo(), book.strike(name="a"), book.strike("b"), book.standing()], ["none", True, None, None, "many"])
        self.assertEqual(book.entries(), (("d", LESS, (LESS,)),))
        self.assertIs(book.goes_along(place=ZERO, number=ZERO), True)
        self.assertEqual(book.values_at(place=LESS), (LESS, (0, 1)))
        refused(self, NotNow, None, None, book.strike, "a")

    def test_all_deeds_are_undone(self):
        book = Book(bound=(4, 1))
        stood = [book.entries()]
        for deed, args in ((book.put, ("a", ZERO, (ONE,))), (book.put, ("b", HALF, (ONE, ZERO))), (book.change, ("a", (ONE,))), (book.change, ("a", (HALF, HALF))),
                           (book.strike, ("a",)), (book.put, ("a", LESS, (ZERO,))), (book.strike, ("b",)), (book.strike, ("a",))):
            deed(*args)
            stood.append(book.entries())
        self.assertEqual(book.entries(), ())
        for entries in stood[-2::-1]:
            self.assertIs(book.undo(), True)
            self.assertEqual(book.entries(), entries)
        for _ in range(3):
            self.assertIs(book.undo(), False)
            self.assertEqual(book.entries(), ())
        # The same VALUES once more are a deed, too.
        self.assertEqual(stood[2], stood[3])

    def test_undo_behind_undo(self):
        book = filled((("a", ZERO, (ONE,)), ("b", HALF, (ONE,))))
        self.assertIs(book.undo(), True)
        book.put("c", LESS, (ONE,))
        self.assertEqual([book.undo(), book.undo(), book.undo()], [True, True, False])
        book.put("a", ZERO, (ZERO,))
        self.assertEqual([book.undo(), book.undo(), book.entries()], [True, False, ()])

    def test_the_order_of_entries(self):
        book = filled((("c", ZERO, (ONE,)), ("a", HALF, (ONE,)), ("b", LESS, (ONE,))))
        book.change("a", (ZERO, ONE))
        self.assertEqual([each[0] for each in book.entries()], ["c", "a", "b"])
        book.strike("c")
        book.put("c", ZERO, (ONE,))
        self.assertEqual([each[0] for each in book.entries()], ["a", "b", "c"])
        self.assertEqual(book.data(), ((HALF, (ZERO, ONE)), (LESS, (ONE,)), (ZERO, (ONE,))))

    def test_names(self):
        book = Book()
        for at, name in enumerate(("a", "z", "abcdefgh", "zzzzzzzz", "bound", "qu")):
            book.put(name, num(Fraction(at, 9)), (ZERO,))
        self.assertEqual(book.standing(), "many")

    def test_any_deeds(self):
        source = random.Random(271)
        words = []
        for turn in range(12):
            bound = source.choice(((1, 1), (4, 1), (5, 2)))
            book, model, past = Book(bound), [], []
            places = [each.number() for each in some_places(source, 5, (2, 3))] + [ZERO]
            one = rim_one(Pair(1) if bound != (4, 1) else Pair(0, 2), some_places(source, turn % 3))
            for _ in range(14):
                deed = source.choice(("put", "put", "put", "change", "strike", "undo", "twin"))
                name, place = source.choice("abcdefg"), source.choice(places)
                values = data_from(one, [(pair(place), source.choice((1, 1, 2, 3)))])[0][1]
                if source.randint(0, 2) == 0:
                    values = tuple((pair(each) * Pair(Fraction(1, 2)) + Pair(Fraction(source.randint(0, 1), 7))).number() for each in values)
                before = list(model)
                try:
                    if deed == "put":
                        book.put(name, place, values)
                        model.append((name, place, values))
                    elif deed == "change":
                        place = [each for each in model if each[0] == name]
                        values = data_from(one, [(pair(place[0][1]), 1)])[0][1] if place else values
                        book.change(name, values)
                        model = [(each[0], each[1], values) if each[0] == name else each for each in model]
                    elif deed == "strike":
                        book.strike(name)
                        model = [each for each in model if each[0] != name]
                    elif deed == "undo":
                        self.assertIs(book.undo(), bool(past))
                        model = past.pop() if past else model
                    else:
                        book = book.twin()
                    if deed in ("put", "change", "strike"):
                        past.append(before)
                except (Alike, TooMany, NotNow):
                    pass
                self.assertEqual(book.entries(), tuple(model))
            check_from_nothing(self, book, model, bound)
            words.append(book.standing())
        self.assertEqual(set(words), {"many", "one", "none"})

    def test_entries_in_another_order(self):
        source = random.Random(272)
        for counts in ((1, 1, 1), (2, 1), (1, 1, 1, 1), (3, 2, 1), (1, 1, 1, 1, 1, 1)):
            for factor in (Pair(1), Pair(Fraction(5, 4))):
                data = data_from(rim_one(factor, some_places(source, 2)), shape_at(source, counts))
                entries = [("abcdef"[at], *each) for at, each in enumerate(data)]
                one, other = filled(entries), filled(entries[::-1])
                self.assertEqual([one.standing(), one.rank(), one.the_one()], [other.standing(), other.rank(), other.the_one()])
                for place in (ZERO, HALF, num(Fraction(3, 7), Fraction(1, 7))):
                    self.assertEqual(one.values_at(place), other.values_at(place))


class ClashesTest(unittest.TestCase):
    def test_least_clashes(self):
        source = random.Random(273)
        seen = {}
        for turn in range(14):
            places = some_places(source, 6, (2, 3, 4))
            spread = Fraction(source.randint(2, 8), 6)
            names = source.sample(("a", "ab", "b", "zz", "m", "ma", "q"), 6)
            entries = [(names[at], place.number(), ((some_pair(source, 3, 3) * Pair(spread / 3)).number(),)) for at, place in enumerate(places)]
            entries = entries[:source.randint(2, 6)]
            book = filled(entries)
            found = book.clashes()
            self.assertEqual(found, own_clashes(entries, (1, 1)))
            self.assertIs(found == (), book.standing() != "none")
            for each in found:
                seen[len(each)] = True
            # Whichever names go so that one of each least clash has gone, the rest stand.
            for gone in itertools.product(*found):
                rest = filled([each for each in entries if each[0] not in gone])
                self.assertNotEqual(rest.standing(), "none")
        self.assertTrue({1, 2, 3} <= set(seen), seen)

    def test_their_order(self):
        book = filled((("b", ZERO, (ONE,)), ("a", HALF, (ZERO,)), ("c", LESS, (ZERO,)), ("z", QUARTER, (num(2),)), ("y", num(0, Fraction(1, 2)), (num(0, 2),))))
        self.assertEqual(book.clashes(), (("y",), ("z",), ("b", "a"), ("b", "c")))
        book.strike("b")
        self.assertEqual(book.clashes(), (("y",), ("z",)))

    def test_three_together(self):
        # 0 at 0, 1 / 2 - 1 / 100 at 1 / 2 and at - 1 / 2: each two of them go along, all three do not.
        near = num(Fraction(49, 100))
        book = filled((("a", ZERO, (ZERO,)), ("b", HALF, (near,)), ("c", LESS, (near,))))
        self.assertEqual(book.clashes(), (("a", "b", "c"),))

    def test_a_book_of_six_values(self):
        data = data_from(rim_one(Pair(1), [Pair(0), Pair(Fraction(1, 3))]), [(Pair(Fraction(k, 7), Fraction(1, 7)), 1) for k in range(6)])
        entries = [("abcdef"[at], *each) for at, each in enumerate(data)]
        book = filled(entries)
        self.assertEqual([book.standing(), book.rank(), book.idle(), book.clashes()], ["one", 2, tuple("abcdef"), ()])
        refused(self, TooMany, None, None, book.put, "g", LESS, (ZERO,))
        book.change("a", ((pair(data[0][1][0]) * Pair(Fraction(99, 100))).number(),))
        self.assertEqual(book.standing(), "none")
        check_from_nothing(self, book, [("a", data[0][0], book.entries()[0][2])] + entries[1:], (1, 1))
        self.assertTrue(all(each[0] == "a" for each in book.clashes()))


class IdleTest(unittest.TestCase):
    def test_idle(self):
        source = random.Random(274)
        lots = []
        for degree in range(4):
            for many in range(degree + 1, 6):
                data = data_from(rim_one(Pair(0, 1), some_places(source, degree)), shape_at(source, (1,) * many))
                book = filled([("abcdef"[at], *each) for at, each in enumerate(data)])
                self.assertEqual(book.standing(), "one")
                # So many VALUES as the degree leave many; each more than one is idle.
                self.assertEqual(book.idle(), tuple("abcdef"[:many]) if many > degree + 1 else ())
                one = book.the_one()
                for name in book.idle():
                    book.strike(name)
                    self.assertEqual(book.the_one(), one)
                    book.undo()
                lots.append(book.idle())
        self.assertIn((), lots)

    def test_some_are_idle(self):
        # z has 0, 1 at 0; 1 / 2 at 1 / 2 is idle, and the first entry alone tells it.
        book = filled((("a", ZERO, (ZERO, ONE)), ("b", HALF, (HALF,))))
        self.assertEqual(book.idle(), ("b",))
        book.put("c", LESS, (LESS,))
        self.assertEqual(book.idle(), ("a", "b", "c"))

    def test_not_now(self):
        for entries in ((), (("a", ZERO, (ZERO,)),), (("a", ZERO, (num(2),)),), (("a", ZERO, (ZERO,)), ("b", HALF, (ONE,)))):
            refused(self, NotNow, None, None, filled(entries).idle)

    def test_an_entry_less_with_many(self):
        # With the standing "many" the values elsewhere become more without any one entry.
        source = random.Random(275)
        for counts in ((1, 1), (1, 1, 1), (2, 1), (1, 2, 1)):
            data = data_from(rim_one(Pair(1), some_places(source, sum(counts))), shape_at(source, counts))
            book = filled([("abcdef"[at], *each) for at, each in enumerate(data)])
            self.assertEqual(book.standing(), "many")
            place = num(Fraction(5, 11), Fraction(-3, 11))
            for name in "abcdef"[:len(counts)]:
                square = frac(book.values_at(place)[1])
                book.strike(name)
                self.assertGreater(frac(book.values_at(place)[1]), square)
                book.undo()


class TwinTest(unittest.TestCase):
    def test_neither_hangs_on_the_other(self):
        book = filled((("a", ZERO, (ZERO,)), ("b", HALF, (HALF,))), (9, 4))
        twin = book.twin()
        self.assertEqual(without_any(twin), without_any(book))
        self.assertEqual(twin.bound(), (9, 4))
        twin.put("c", LESS, (ONE,))
        self.assertEqual([len(twin.entries()), len(book.entries())], [3, 2])
        book.strike("a")
        self.assertEqual([len(twin.entries()), len(book.entries())], [3, 1])
        self.assertEqual([twin.undo(), twin.undo(), twin.undo(), twin.undo()], [True, True, True, False])
        self.assertEqual([len(twin.entries()), len(book.entries())], [0, 1])
        self.assertEqual([book.undo(), book.undo(), book.undo(), book.undo()], [True, True, True, False])

    def test_twins_of_twins(self):
        book = Book()
        books = [book]
        for at in range(6):
            books.append(books[-1].twin())
            books[-1].put("abcdef"[at], num(Fraction(at, 8)), (num(Fraction(at, 50)),))
        self.assertEqual([len(each.entries()) for each in books], [0, 1, 2, 3, 4, 5, 6])
        for many, each in enumerate(books):
            self.assertEqual([each.undo() for _ in range(many + 1)], [True] * many + [False])


class RefusalTest(unittest.TestCase):
    def setUp(self):
        self.book = filled((("a", ZERO, (ZERO, HALF)), ("b", HALF, (HALF,)), ("c", LESS, (ZERO, ONE))))
        self.book.put("d", num(0, Fraction(1, 2)), (ZERO,))
        self.kept = without_any(self.book)

    def tearDown(self):
        # What is refused changes nothing, and nothing of what undo takes back either.
        self.assertEqual(without_any(self.book), self.kept)
        self.assertEqual([self.book.undo() for _ in range(5)], [True] * 4 + [False])

    def test_wrong_bounds(self):
        for value in WRONG_BOUNDS:
            refused(self, InvalidFraction, "given", value, Book, value)
            refused(self, InvalidFraction, "given", value, Book, bound=value)
        self.assertEqual([Book().bound(), Book((1, 3)).bound(), Book(bound=(7, 1)).bound()], [(1, 1), (1, 3), (7, 1)])

    def test_wrong_arguments(self):
        name = ("name", given(InvalidName, WRONG_NAMES), "a")
        place = ("place", given(InvalidPlace, WRONG_PLACES), num(0, Fraction(1, 3)))
        values = ("values", indexed(InvalidValues, WRONG_VALUES), (ONE,))
        check_refusals(self, self.book.put, (name, place, values))
        check_refusals(self, self.book.change, (name, values))
        check_refusals(self, self.book.strike, (name,))
        check_refusals(self, self.book.values_at, (place,))
        check_refusals(self, self.book.goes_along, (place, ("number", given(InvalidNumber, WRONG_NUMBERS), ONE)))

    def test_last_ones(self):
        book, free = self.book, num(Fraction(1, 3))
        for args in (("a", free, (ZERO,)), ("e", ZERO, (ZERO,)), ("e", HALF, (ZERO,)), ("b", LESS, (ZERO,)), ("d", free, (ONE,) * 3)):
            refused(self, Alike, None, None, book.put, *args)
        refused(self, TooMany, None, None, book.put, "e", free, (ZERO,))
        refused(self, TooMany, None, None, book.put, "e", free, (ZERO,) * 3)
        refused(self, NotNow, None, None, book.change, "e", (ZERO,))
        refused(self, NotNow, None, None, book.change, "e", (ZERO,) * 3)
        refused(self, TooMany, None, None, book.change, "b", (ZERO, ZERO))
        refused(self, TooMany, None, None, book.change, "d", (ZERO,) * 3)
        refused(self, NotNow, None, None, book.strike, "e")
        for value, index in WRONG_VALUES:
            refused(self, InvalidValues, "index", index, book.put, "a", ZERO, value)
            refused(self, InvalidValues, "index", index, book.change, "e", value)
        self.assertIsNone(book.change("a", (ONE, ONE)))
        self.assertIs(book.undo(), True)

    def test_just_within(self):
        book = self.book.twin()
        book.change("a", (ONE,))
        book.put("e", num(Fraction(1, 3)), (ZERO,))
        refused(self, TooMany, None, None, book.put, "f", num(Fraction(1, 5)), (ZERO,))
        self.assertEqual(len(book.entries()), 5)
        six = Book()
        for at in range(6):
            six.put("abcdef"[at], num(Fraction(at, 8)), (ZERO,))
        refused(self, TooMany, None, None, six.put, "g", LESS, (ZERO,))
        refused(self, TooMany, None, None, six.change, "a", (ZERO, ZERO))
        self.assertEqual(len(six.entries()), 6)

    def test_no_entries_are_changed_from_outside(self):
        entries = self.book.entries()
        self.assertIs(type(entries), tuple)
        self.assertTrue(all(type(each) is tuple and len(each) == 3 for each in entries))


if __name__ == "__main__":
    unittest.main()
