"""What is promised over the whole program: from rows to quotients, DATA, tables, standings, books, papers and plants."""

import random
import unittest
from fractions import Fraction

from tests.support import (
    OPPOSITES, Pair, frac, num, own_data_of, own_standing, pair, plant_cases, row, some_fraction, some_pair, some_places, told,
)
from withinrim.answers import answer, goes_along, some_answer, the_one, told_back, values_at
from withinrim.beats import beats, energy
from withinrim.books import Book
from withinrim.bounds import keeps, loop_data, loop_pencil, loop_standing, some_controller
from withinrim.certificates import paper_for, settled
from withinrim.checker import accepts
from withinrim.claims import is_claim, opposite
from withinrim.console import Console
from withinrim.data import does_have, is_data, joined, many_values, table_of
from withinrim.helds import is_up_to
from withinrim.loops import is_steadied, left_of
from withinrim.moves import bound_pencil
from withinrim.numbers import number_product
from withinrim.pencils import least_floor, least_fraction, side_of_least
from withinrim.pictures import values_picture
from withinrim.plants import quotient_of_plant
from withinrim.quotients import coefficients, quotient_degree, quotient_of, quotient_value
from withinrim.rims import bound_of, is_rim_one, rim_of_places
from withinrim.rows import row_from, row_product
from withinrim.squares import is_nonnegative, mix_below, null_mixes, rank_of, squares_of
from withinrim.steps import four_rows, standing
from withinrim.tables import comes_out
from withinrim.tames import tame_standing
from withinrim.texts import data_text, number_text, quotient_text, read_data, read_quotient

FACTORS = (num(1), num(0, 2), num(Fraction(1, 2), Fraction(-1, 2)))
SHAPES = ((1,), (3,), (1, 1), (2, 1), (1, 1, 1), (2, 3), (1, 1, 2, 1), (3, 3), (1, 1, 1, 1, 1, 1))


def made_data(quotient, source, counts):
    places = [each.number() for each in some_places(source, len(counts), (2, 3, 4))]
    return tuple((place, coefficients(quotient, place, many)) for place, many in zip(places, counts))


def cases(seed):
    """QUOTIENTs that were made of ROWs, DATA that they have, and bounds below, at and above their own."""
    source = random.Random(seed)
    for counts in SHAPES:
        for degree in (0, 1, sum(counts) - 1, sum(counts)):
            factor = source.choice(FACTORS)
            quotient = rim_of_places(factor, tuple(each.number() for each in some_places(source, degree, (2, 3))))
            data = made_data(quotient, source, counts)
            for part in (Fraction(8, 10), 1, Fraction(11, 10)):
                yield quotient, data, told(frac(bound_of(quotient)) * part)


class PromiseTest(unittest.TestCase):
    def test_some_series_exactly_if_a_table_is_nonnegative(self):
        words = []
        for quotient, data, bound in cases(351):
            table, word = table_of(data, bound), standing(data, bound)
            words.append(word)
            self.assertEqual(word, own_standing(data, frac(bound)))
            self.assertIs(is_nonnegative(table), word != "none")
            self.assertIs(squares_of(table) is None, word == "none")
            found = some_answer(data, bound)
            if word == "none":
                # One row of numbers shows it.
                self.assertLess(comes_out(table, mix_below(table))[0], 0)
                self.assertIsNone(found)
                continue
            self.assertIsNone(mix_below(table))
            self.assertIs(does_have(data, found), True)
            self.assertIs(is_up_to(found, bound), True)
            if is_up_to(quotient, bound):
                self.assertIs(does_have(data, quotient), True)
        self.assertGreater(min(words.count(each) for each in ("many", "one", "none")), 10)

    def test_the_only_one(self):
        many = 0
        for quotient, data, bound in cases(352):
            if standing(data, bound) != "one":
                self.assertIsNone(the_one(data, bound))
                continue
            table, one = table_of(data, bound), the_one(data, bound)
            self.assertIs(is_rim_one(one, bound), True)
            self.assertEqual(quotient_degree(one), rank_of(table))
            self.assertEqual(comes_out(table, null_mixes(table)[0]), (0, 1))
            if is_up_to(quotient, bound):
                self.assertEqual(one, quotient)
            many += 1
        self.assertGreater(many, 10)

    def test_all_are_told_by_four_rows(self):
        source = random.Random(353)
        for quotient, data, bound in cases(354):
            if standing(data, bound) != "many":
                self.assertIsNone(four_rows(data, bound))
                continue
            if is_up_to(quotient, bound):
                self.assertEqual(answer(data, told_back(data, quotient, bound), bound), quotient)
            place = num(Fraction(5, 11), Fraction(2, 11))
            centre, square = values_at(data, place, bound)
            for s in ((row(some_fraction(source, 2, 9) * Fraction(1, 3)), row(1)), ((), row(1))):
                s = s if s[0] and s[0][0] != num(0) else ((), row(1))
                if is_up_to(s, bound):
                    value = quotient_value(answer(data, s, bound), place)
                    self.assertLess((pair(value) - pair(centre)).size(), frac(square))
                    self.assertIs(goes_along(data, place, value, bound), True)
            if many_values(data) < 6:
                # Inside the disc both together have many, outside none.
                for far in (Fraction(1, 2), Fraction(3)):
                    value = (pair(centre) + Pair(far) * Pair(Fraction(floor_root(frac(square)), 10 ** 6))).number()
                    word = standing(joined(data, place, value), bound)
                    self.assertEqual(word, "many" if far < 1 else "none")

    def test_the_least_bound(self):
        for quotient, data, bound in cases(355):
            pencil = bound_pencil(data)
            side = side_of_least(pencil, bound)
            self.assertEqual(standing(data, bound), {-1: "none", 0: "one", 1: "many"}[side])
            least = least_fraction(pencil)
            if least is not None and least[0] > 0:
                self.assertEqual(standing(data, least), "one")
            floor = least_floor(pencil, 100)
            self.assertNotEqual(standing(data, (floor // 100 + 1, 1)), "none")
            self.assertIn(side_of_least(pencil, told(frac(bound_of(quotient)))), (0, 1))

    def test_from_rows_to_texts_and_back(self):
        source = random.Random(356)
        for _ in range(40):
            top = row_from(tuple(some_pair(source, 5, 3).number() for _ in range(source.randint(0, 4))))
            under = row_product(row_from((num(1), some_pair(source, 1, 5).number())), (num(1), num(Fraction(1, 4)))) if source.randint(0, 1) else (num(1),)
            quotient = quotient_of(top, under)
            self.assertEqual(read_quotient(quotient_text(quotient)), quotient)
            data = made_data_of(quotient, source)
            self.assertIs(is_data(data), True)
            self.assertIs(does_have(data, quotient), True)
            again = read_data(data_text(data))
            self.assertEqual(again, data)
            for bound in ((1, 1), (25, 1)):
                self.assertEqual(settled(("one", again, bound)), settled(("one", data, bound)))
                if is_up_to(quotient, bound):
                    self.assertNotEqual(standing(again, bound), "none")

    def test_tame_ones(self):
        for _, data, _ in cases(357):
            word = tame_standing(data)
            self.assertIs(paper_for(("tame", data)) is not None, word != "none")
            claim, paper = settled(("not tame", data))
            self.assertEqual(claim[0], "not tame" if word == "none" else "tame")
            self.assertIs(accepts(claim, paper), True)


def floor_root(value):
    """The root of a Fraction in millionths, rounded down."""
    low, high = 0, 10 ** 12
    while high - low > 1:
        middle = (low + high) // 2
        low, high = (middle, high) if Fraction(middle * middle, 10 ** 12) <= value else (low, middle)
    return low


def made_data_of(quotient, source):
    counts = source.choice(SHAPES)
    while True:
        places = [each.number() for each in some_places(source, len(counts), (3, 5, 7))]
        if all(quotient_value(quotient, place) is not None for place in places):
            return tuple((place, coefficients(quotient, place, many)) for place, many in zip(places, counts))


class BookTest(unittest.TestCase):
    def test_behind_deeds_as_from_nothing(self):
        source = random.Random(358)
        for _, data, bound in cases(359):
            book, console = Book(bound), Console()
            console.say("bound " + number_text((bound, (0, 1))))
            names = ["abcdef"[at] for at in range(len(data))]
            source.shuffle(names)
            detour = num(Fraction(1, 97), Fraction(5, 97))
            for name, (place, values) in zip(names, data):
                # Put otherwise at first, or elsewhere, and changed, struck, undone.
                book.put(name, place, (num(7),))
                book.strike(name)
                book.put(name, detour, (num(0),))
                book.undo()
                book.undo()
                book.change(name, values)
                console.say("put " + name + " " + number_text(place) + " 7")
                console.say("change " + name + " " + " ".join(map(number_text, values)))
            self.assertEqual(book.data(), data)
            word = standing(data, bound)
            self.assertEqual([book.standing(), book.the_one()], [word, the_one(data, bound)])
            self.assertEqual(book.rank(), None if word == "none" else rank_of(table_of(data, bound)))
            told_word = console.say("standing")[0]
            self.assertTrue(told_word.startswith(word))
            for place in (num(0), num(Fraction(1, 3), Fraction(-1, 4)), data[0][0]):
                self.assertEqual(book.values_at(place), values_at(data, place, bound))
                picture = tuple(values_picture(data, place, 5, bound).split("\n")[:-1])
                self.assertEqual(console.say("draw " + number_text(place) + " 5"), ("none",) if word == "none" else picture)
            self.assertEqual(book.clashes() == (), word != "none")
            self.assertEqual([" ".join(each) for each in book.clashes()] or ["no clash"], list(console.say("clashes")))


class PapersTest(unittest.TestCase):
    def test_just_one_of_a_claim_and_its_opposite(self):
        words = {}
        source = random.Random(360)
        for quotient, data, bound in cases(361):
            place, number = num(Fraction(2, 7), Fraction(-1, 7)), some_pair(source, 2, 5).number()
            table = table_of(data, bound)
            for claim in (("up to", quotient, bound), ("some", data, bound), ("one", data, bound), ("many", data, bound), ("answer", data, bound, quotient), ("value", data, bound, place, number),
                          ("value", data, bound, data[0][0], number), ("nonnegative", table), ("tame", data)):
                self.assertIs(is_claim(claim), True)
                one, other = paper_for(claim), paper_for(opposite(claim))
                self.assertIs(one is None, other is not None)
                found, paper = settled(claim)
                self.assertIn(found, (claim, opposite(claim)))
                self.assertIs(accepts(found, paper), True)
                self.assertIs(accepts(opposite(found), paper), False)
                words[found[0]] = True
        self.assertTrue({word for both in OPPOSITES[:8] for word in both} <= set(words), words)


class PlantTest(unittest.TestCase):
    def test_a_bound_can_be_kept_exactly_if_a_table_is_nonnegative(self):
        for plant in plant_cases(362):
            process = quotient_of_plant(plant)
            for kind in ("left", "echo"):
                data = loop_data(plant, kind)
                self.assertEqual(data, own_data_of(plant, kind))
                floor = least_floor(loop_pencil(plant, kind), 10)
                for bound in (told(Fraction(max(floor - 1, 1), 10)), told(Fraction(floor + 1, 10)), told(Fraction(floor + 30, 10))):
                    word = loop_standing(plant, kind, bound)
                    self.assertIs(is_nonnegative(table_of(data, bound)), word != "none")
                    controller = some_controller(plant, kind, bound)
                    self.assertIs(controller is None, word == "none")
                    claim, paper = settled(("kept", plant, kind, bound))
                    self.assertEqual(claim[0], "not kept" if controller is None else "kept")
                    self.assertIs(accepts(claim, paper), True)
                    if controller is None:
                        continue
                    self.assertIs(accepts(claim, controller), True)
                    self.assertIs(is_steadied(process, controller), True)
                    self.assertEqual(paper_for(("keeps", process, controller, kind, bound)), ())
                    self.assertIs(keeps(plant, controller, kind, bound), True)
                    if kind == "left":
                        out = tuple(y for y, _ in beats(process, controller, (num(1), num(0, -1), num(2))))
                        self.assertLessEqual(frac(energy(out)), 6 * frac(bound))
                        self.assertEqual(out[0], number_product(num(1), coefficients(left_of(process, controller), num(0), 1)[0]))


if __name__ == "__main__":
    unittest.main()
