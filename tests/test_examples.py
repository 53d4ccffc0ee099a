"""The examples of the interface, with the answers that stand there, and those of README.md."""

import pathlib
import unittest

from withinrim import errors

NUMBERS_TO_HELDS = '''
>>> from withinrim.numbers import compared, fraction_of, lies, number_of, number_over, number_product, rim_fraction, rim_number, size
>>> from withinrim.rows import row_at, row_back, row_common, row_divided, row_from, row_product, row_value
>>> from withinrim.realrows import below_at, is_never_below, leaps, real_roots, real_roots_within
>>> from withinrim.rootcounts import rim_rows, root_counts, times_root
>>> from withinrim.quotients import coefficients, quotient_of, quotient_over, quotient_value
>>> from withinrim.helds import above_at, is_up_to, rim_gap
>>> [fraction_of(6, -4), compared((-3, 2), (-5, 3)), number_of(1, 2, 2), number_product(number_of(1, 2, 2), number_of(0, 2)), number_over(number_of(5), number_of(2, 1)) == number_of(2, -1)]
[(-3, 2), 1, ((1, 2), (1, 1)), ((-2, 1), (1, 1)), True]
>>> [size(number_of(3, 4)), lies(number_of(3, 4, 5)), rim_number((1, 2)), rim_fraction(((3, 5), (4, 5))), rim_fraction(number_of(-1))]
[(25, 1), 'rim', ((3, 5), (4, 5)), (1, 2), None]
>>> nought, one, half = number_of(0), number_of(1), number_of(1, 0, 2)
>>> cubic = (one, number_of(-5, 0, 2), half, one)
>>> [root_counts(cubic), times_root(cubic, half), root_counts(row_back(cubic, 5)), rim_rows((nought, one))]
[(1, 1, 1), 1, (3, 1, 1), (((1, 1),), ((0, 1), (1, 1)))]
>>> row_divided(cubic, (number_of(-1), nought, one)) == ((half, one), (number_of(3, 0, 2), number_of(-3, 0, 2)))
True
>>> [row_common(cubic, (number_of(-1), nought, one)) == (number_of(-1), one), row_at((nought, nought, one), one) == (one, number_of(2), one), row_from((one, nought)) == (one,)]
[True, True, True]
>>> flat = ((1, 1), (-2, 1), (2, 1), (-2, 1), (1, 1))
>>> [real_roots(flat), is_never_below(flat), real_roots(((0, 1), (-1, 1), (0, 1), (1, 1))), real_roots_within(((0, 1), (-1, 1), (0, 1), (1, 1)), (-1, 1), (1, 1)), leaps(((0, 1), (1, 1)), ((-1, 1),))]
[(1, 1), True, (3,), 2, -1]
>>> bent = quotient_of((nought, one), (one, number_of(-1, 0, 2)))
>>> [rim_gap(bent, (4, 1)), is_up_to(bent), is_up_to(bent, bound=(4, 1)), quotient_value(bent, number_of(2)), above_at(quotient_of((one,), (one, number_of(-3))))]
[((0, 1), (0, 1), (8, 1)), False, True, None, ('roots', 1)]
>>> [coefficients(bent, nought, 3) == (nought, one, half), quotient_over(bent, bent) == ((one,), (one,)), compared(size(quotient_value(bent, above_at(bent)[1])), (1, 1))]
[True, True, 1]
'''

TABLES_TO_PENCILS = '''
>>> from withinrim.numbers import number_of
>>> from withinrim.pencils import compare_leasts, is_pencil, least_floor, least_fraction, roots_about, row_of, side_of_least
>>> from withinrim.squares import counts_of, do_make, is_nonnegative, is_positive, mix_below, null_mixes, rank_of, signed_squares, squares_of
>>> from withinrim.tables import cleared_table, come_out_together, comes_out, element_product, is_table, led_table, struck_table, table_multiple, table_sum, tables_beside
>>> nought, one, turned, less = number_of(0), number_of(1), number_of(0, 1), number_of(-1)
>>> firm = ((number_of(2), turned), (number_of(0, -1), one))
>>> [comes_out(firm, (one, turned)), comes_out(firm, (one, number_of(0, -1))), come_out_together(firm, (one, nought), (nought, turned)), is_table(((turned,),))]
[(5, 1), (1, 1), ((1, 1), (0, 1)), False]
>>> [squares_of(firm) == (((2, 1), (one, number_of(0, -1, 2))), ((1, 2), (nought, one))), is_positive(firm), mix_below(firm), cleared_table(firm) == ((number_of(1, 0, 2),),)]
[True, True, None, True]
>>> even, cross = ((one, one), (one, one)), ((nought, one), (one, nought))
>>> [squares_of(even) == (((1, 1), (one, one)),), null_mixes(even) == ((less, one),), rank_of(even), counts_of(cross), squares_of(cross), comes_out(cross, (one, less))]
[True, True, 1, (1, 0, 1), None, (-2, 1)]
>>> [led_table(firm, ((one, turned),)) == ((number_of(5),),), counts_of(tables_beside(even, cross)), struck_table(cross, 0) == ((nought,),), element_product(firm, even) == firm]
[True, (2, 1, 1), True, True]
>>> [table_sum(even, cross) == ((one, number_of(2)), (number_of(2), one)), table_multiple(even, (-3, 1)) == ((number_of(-3), number_of(-3)), (number_of(-3), number_of(-3)))]
[True, True]
>>> [do_make(cross, signed_squares(cross)), do_make(even, ((one, one),)), do_make((), ()), is_nonnegative(cross)]
[True, False, True, False]
>>> plain = ((one, nought), (nought, one))
>>> crossed, longer = (plain, cross), (plain, ((one, one), (one, nought)))
>>> [row_of(crossed), least_fraction(crossed), roots_about(crossed, (0, 1)), side_of_least(crossed, (1, 1)), row_of(longer), least_fraction(longer), least_floor(longer, 10), compare_leasts(longer, crossed)]
[((-1, 1), (0, 1), (1, 1)), (1, 1), (1, 0, 1), 0, ((-1, 1), (-1, 1), (1, 1)), None, 16, 1]
>>> [is_pencil((even, cross)), is_pencil(((), ())), side_of_least(longer, (-5, 1))]
[False, False, -1]
>>> comes_out(((nought, one), (turned, nought)), (one, one))
raises InvalidTable(index=1)
>>> table_sum(even, ((one,),))
raises InvalidTable(index=None)
'''

DATA_TO_MOVES = '''
>>> from withinrim.answers import answer, goes_along, some_answer, the_one, told_back, values_at
>>> from withinrim.data import does_have, is_data, joined, many_values, table_of
>>> from withinrim.steps import four_rows, knots, standing, step, step_table
>>> zero, unit, half, quarter = ((0, 1), (0, 1)), ((1, 1), (0, 1)), ((1, 2), (0, 1)), ((1, 4), (0, 1))
>>> two, edge, far = ((zero, (zero,)), (half, (quarter,))), ((zero, (zero,)), (half, (half,))), ((zero, (zero,)), (half, (unit,)))
>>> [standing(two), standing(edge), standing(far), standing(far, (4, 1)), many_values(two), is_data(two + two[:1])]
['many', 'one', 'none', 'one', 2, False]
>>> [table_of(two) == ((unit, unit), (unit, ((5, 4), (0, 1)))), table_of(edge) == ((unit, unit), (unit, unit)), step(two) == ((half, (half,)),), knots(two) == ((zero, zero), (half, half))]
[True, True, True, True]
>>> line = ((zero, unit), (unit,))
>>> [the_one(edge) == line, does_have(edge, line), the_one(two), goes_along(two, ((-1, 2), (0, 1)), quarter), goes_along(edge, quarter, half)]
[True, True, None, True, False]
>>> values_at(two, ((-1, 2), (0, 1)))
(((-3, 28), (0, 1)), (25, 196))
>>> [answer(two, ((), (unit,))) == ((zero, half), (unit,)), told_back(two, ((zero, half), (unit,))), four_rows(two)[0] == (zero, ((-1, 2), (0, 1)), unit), told_back(two, line)]
[True, ((), (((1, 1), (0, 1)),)), True, None]
>>> from withinrim.turns import apartness, back, behind, is_turn, led, turn_between, turn_quotient
>>> i, less, double = ((0, 1), (1, 1)), ((-1, 2), (0, 1)), ((2, 1), (0, 1))
>>> shift = (unit, half)
>>> [is_turn(shift), is_turn((half, zero)), is_turn((unit, unit)), is_turn((unit, unit), (4, 1)), led(shift, zero) == less, led(shift, unit) == unit, led(shift, double), back(shift) == (unit, less)]
[True, False, False, True, True, True, None, True]
>>> [behind(shift, shift), apartness(half, less), apartness(unit, ((-1, 1), (0, 1)), (4, 1)), led((unit, unit), double, (4, 1)) == double]
[(((1, 1), (0, 1)), ((4, 5), (0, 1))), (16, 25), (16, 25), True]
>>> [turn_between(zero, half, half, zero) == (((-1, 1), (0, 1)), half), turn_between(zero, half, half, half), turn_quotient(shift) == ((less, unit), (unit, less))]
[True, None, True]
>>> from withinrim.rims import bound_of, is_rim_one, rim_of, rim_of_places, rounds, taken, taken_at
>>> square, slow = ((zero, zero, unit), (unit,)), ((zero, half), (unit,))
>>> [is_rim_one(turn_quotient(shift)), is_rim_one(slow), is_rim_one(slow, (1, 4)), bound_of(slow), rim_of(double, (zero, less, unit)) == ((zero, ((-1, 1), (0, 1)), double), (unit, less))]
[True, False, True, (1, 4), True]
>>> [rim_of_places(i, (zero, half)) == rim_of(i, (zero, less, unit)), taken(square, half), taken(square, unit), taken(square, double), rounds(slow), rounds(((half,), (unit,))), taken_at(square, square) == ((zero, zero, zero, zero, unit), (unit,))]
[True, (2, 0, 0), (0, 2, 0), (0, 0, 2), 1, 0, True]
>>> from withinrim.tames import held_data, held_of, is_tame, tame_of, tame_standing, tame_table
>>> [tame_of(line) == ((unit, unit), (unit, ((-1, 1), (0, 1)))), is_tame(tame_of(line)), is_tame(line), held_of(tame_of(line)) == line]
[True, True, False, True]
>>> [tame_table(((zero, (unit, unit)),)) == ((double, unit), (unit, double)), tame_standing(((zero, (unit, unit)),)), tame_standing(((zero, (unit, double)),)), tame_standing(((zero, (unit, ((3, 1), (0, 1)))),)), held_data(((zero, (unit, unit)),)) == ((zero, (zero, half)),)]
[True, 'many', 'one', 'none', True]
>>> from withinrim.moves import bound_pencil, moved_places, moved_values, to_noughts
>>> mate = ((half, (half,)), (zero, (zero,)))
>>> [moved_places(mate, shift) == ((zero, (half,)), (less, (zero,))), moved_values(mate, shift) == ((half, (zero,)), (zero, (less,))), to_noughts(mate)[2] == ((zero, (zero,)), (less, (less,)))]
[True, True, True]
>>> bound_pencil(far) == (((unit, unit), (unit, ((4, 3), (0, 1)))), ((zero, zero), (zero, ((4, 3), (0, 1)))))
True
>>> moved_places(((zero, (zero, unit)),), shift)
((((-1, 2), (0, 1)), (((0, 1), (0, 1)), ((4, 3), (0, 1)))),)
'''

LOOPS = '''
>>> from withinrim.beats import beats, energy
>>> from withinrim.bounds import controller_by, keeps, loop_data, loop_pencil, loop_standing, real_controller, some_controller, told_back_controller
>>> from withinrim.loops import blended, controller_of, echo_of, is_steadied, left_of, loop_row
>>> from withinrim.numbers import number_of
>>> from withinrim.pencils import least_fraction
>>> from withinrim.plants import is_plant, is_real_plant, mirrored_plant, quotient_of_plant
>>> nought, one, half, corner = number_of(0), number_of(1), number_of(1, 0, 2), number_of(1, 1, 2)
>>> sure, later = (((nought, 1),), ((half, 1),), ((one,), (one,))), (((nought, 1),), ((corner, 1),), ((one,), (one,)))
>>> p = quotient_of_plant(sure)
>>> even, back, idle = ((number_of(-3, 0, 4),), (one,)), ((number_of(-1),), (one,)), ((), (one,))
>>> [is_plant(sure), p == ((nought, number_of(-2)), (one, number_of(-2))), is_real_plant(sure), is_real_plant(later), mirrored_plant(later)[1] == ((number_of(1, -1, 2), 1),)]
[True, True, True, False, True]
>>> [loop_row(p, even) == (one, number_of(-1, 0, 2)), is_steadied(p, even), is_steadied(p, idle), left_of(p, even) == ((one, number_of(-2)), (one, number_of(-1, 0, 2))), echo_of(p, back) == ((nought, number_of(2)), (one,))]
[True, True, False, True, True]
>>> [controller_of(sure, ((one, number_of(-2)), (one,))) == back, controller_of(sure, ((one,), (one,))), blended(sure, even, back, one) == back]
[True, None, True]
>>> [least_fraction(loop_pencil(sure, "left")), least_fraction(loop_pencil(sure, "echo")), least_fraction(loop_pencil(later, "left"))]
[(4, 1), (4, 1), (2, 1)]
>>> [loop_standing(sure, "left", (3, 1)), loop_standing(sure, "left", (4, 1)), loop_standing(sure, "left", (5, 1)), some_controller(sure, "left", (3, 1)), loop_data(sure, "echo") == ((nought, (nought,)), (half, (one,)))]
['none', 'one', 'many', None, True]
>>> [some_controller(sure, "left", (4, 1)) == even, some_controller(sure, "echo", (4, 1)) == back, some_controller(later, "left", (2, 1)) == ((number_of(-1, 0, 2),), (one,)), real_controller(sure, "left", (4, 1)) == even]
[True, True, True, True]
>>> by_idle = controller_by(sure, "left", idle, (5, 1))
>>> [by_idle == ((number_of(-4, 0, 5),), (one,)), told_back_controller(sure, "left", by_idle, (5, 1)) == idle, told_back_controller(sure, "left", back, (5, 1)), keeps(sure, back, "left", (9, 1)), keeps(sure, back, "left", (5, 1)), keeps(sure, even, "echo", (9, 1))]
[True, True, None, True, False, True]
>>> [beats(p, back, (one, nought, nought)) == ((one, one), (number_of(-2), number_of(-2)), (nought, nought)), energy((one, number_of(-2))), beats(p, idle, (one,)) == ((one, nought),)]
[True, (5, 1), True]
>>> quotient_of_plant((((half, 1),), (), ((one,), (one,))))
raises InvalidPlant(index=0)
>>> is_steadied(back, back)
raises InvalidQuotient(given=((((-1, 1), (0, 1)),), (((1, 1), (0, 1)),)))
'''

# Names of the sessions ahead.
NAMES = '''
>>> zero, unit, half, quarter = ((0, 1), (0, 1)), ((1, 1), (0, 1)), ((1, 2), (0, 1)), ((1, 4), (0, 1))
>>> two, edge, far = ((zero, (zero,)), (half, (quarter,))), ((zero, (zero,)), (half, (half,))), ((zero, (zero,)), (half, (unit,)))
>>> line, less = ((zero, unit), (unit,)), ((-1, 2), (0, 1))
'''

TEXTS = '''
>>> from withinrim.texts import data_text, number_text, quotient_text, read_data, read_number, read_quotient, row_text
>>> [number_text(zero), number_text(((1, 2), (-3, 1))), number_text(((0, 1), (1, 1))), row_text((less, zero, unit)), row_text(()), quotient_text(line)]
['0', '1/2-3i', '1i', '[-1/2 0 1]', '[]', '[0 1]/[1]']
>>> [data_text(two), read_data(data_text(two)) == two, read_number("-1/2+1/3i") == ((-1, 2), (1, 3)), read_quotient("[0 1]/[1]") == line, read_data("")]
['0: 0\\n1/2: 1/4\\n', True, True, True, ()]
>>> read_data("0: 0\\n1/2: 2/4\\n")
raises InvalidText(1, 1)
>>> read_data("0: 0\\n1/2:")
raises InvalidText(1, 1)
'''

BOOKS = '''
>>> from withinrim.books import Book
>>> book = Book()
>>> [book.put("a", zero, (zero,)), book.put("b", half, (half,)), book.standing(), book.rank(), book.the_one() == line, book.idle()]
[None, None, 'one', 1, True, ()]
>>> [book.put("c", less, (unit,)), book.standing(), book.clashes(), book.undo(), book.put("d", less, (less,)), book.idle(), book.change("b", (quarter,))]
[None, 'none', (('a', 'c'), ('b', 'c')), True, None, ('a', 'b', 'd'), None]
>>> [book.standing(), book.undo(), book.strike("a"), book.strike("b"), book.standing(), [each[0] for each in book.entries()], book.goes_along(zero, zero)]
['none', True, None, None, 'many', ['d'], True]
>>> book.strike("a")
raises NotNow()
'''

PICTURES = '''
>>> from withinrim.pictures import places_picture, values_picture
>>> values_picture(two, less, 4)
' .. \\n.*..\\n.*..\\n .. \\n'
>>> places_picture(edge, zero, 2)
'..\\n..\\n'
'''

CONSOLE = '''
>>> from withinrim.console import Console
>>> console = Console()
>>> [console.say("put a 0 0"), console.say("put b 1/2 1/4"), console.say("at -1/2"), console.say("answer []/[1]"), console.say("back [0,1]/[1]"), console.say("put a 1/3 0")]
[('many',), ('many',), ('centre -3/28 square 25/196',), ('[0 1/2]/[1]',), ('no answer',), ('there already',)]
>>> [console.say("change b 1/2"), console.say("one"), console.say("standing"), console.say("along -1/2 -1/2"), console.say("undo"), console.say("put c 2 0"), console.say("show me")]
[('one',), ('[0 1]/[1]',), ('one, rank 1 of 2',), ('one',), ('many',), ('wrong word 2',), ('no such line',)]
'''

CLAIMS = '''
>>> from withinrim.certificates import paper_for, settled
>>> from withinrim.checker import accepts
>>> from withinrim.claims import is_claim, opposite
>>> many, sole, lost = ("many", two, (1, 1)), ("one", edge, (1, 1)), ("none", far, (1, 1))
>>> [is_claim(many), is_claim(("many", two)), is_claim(("many", two, (0, 1))), opposite(many) == ("not many", two, (1, 1)), opposite(opposite(sole)) == sole]
[True, False, False, True, True]
>>> minus = ((-1, 1), (0, 1))
>>> [accepts(many, (((zero, half), (unit,)), ((zero, half), (unit,)))), accepts(many, paper_for(many)), accepts(sole, (line, (unit, minus))), accepts(sole, (line, (zero, zero))), accepts(lost, (unit, minus)), paper_for(opposite(lost))]
[False, True, True, False, True, None]
>>> [accepts(("not one", two, (1, 1)), ("many", paper_for(many))), accepts(("not one", far, (1, 1)), ("none", (unit, minus))), settled(("some", far, (1, 1)))[0] == lost, settled(("one", far, (4, 1)))[0][0]]
[True, True, True, 'one']
>>> double = ((zero, ((2, 1), (0, 1))), (unit,))
>>> [accepts(("above", double, (1, 1)), ("place", ((2, 3), (0, 1)))), accepts(("above", double, (1, 1)), ("place", half)), accepts(("above", double, (1, 1)), ("roots", 0)), accepts(("up to", double, (4, 1)), ()), accepts(("up to", double, (3, 1)), ())]
[True, False, False, True, False]
>>> [accepts(("no answer", two, (1, 1), line), ("misses", 1)), accepts(("no answer", two, (4, 1), double), ("misses", 0)), accepts(("value", edge, (1, 1), quarter, quarter), line), accepts(("no value", edge, (1, 1), half, unit), ("told", 1))]
[True, False, True, True]
>>> [accepts(("no value", (), (1, 1), half, double[0][1]), ("more", (unit,))), accepts(("nonnegative", ((unit, unit), (unit, unit))), (((1, 1), (unit, unit)),)), accepts(("below", ((zero, unit), (unit, zero))), (unit, minus)), accepts(5, None)]
[True, True, True, False]
'''


def examples(text):
    """Pairs of a row to run and the answer that stands below it, None for none."""
    lines = [line for line in text.split("\n") if line]
    for at, line in enumerate(lines):
        if line.startswith(">>> "):
            below = lines[at + 1] if at + 1 < len(lines) else ">>> "
            yield line[4:], None if below.startswith(">>> ") else below


class ExamplesTest(unittest.TestCase):
    def run_all(self, text):
        names = {}
        for code, answer in examples(text):
            if answer is None:
                exec(code, names)
            elif answer.startswith("raises "):
                self.check_raised(code, names, answer[len("raises "):])
            else:
                self.assertEqual(repr(eval(code, names)), answer, code)

    def check_raised(self, code, names, told):
        wanted = eval(told, dict(vars(errors)))
        with self.assertRaises(ValueError) as caught:
            eval(code, names)
        self.assertIs(type(caught.exception), type(wanted), code)
        self.assertEqual(vars(caught.exception), vars(wanted), code)

    def test_numbers_to_helds(self):
        self.run_all(NUMBERS_TO_HELDS)

    def test_tables_to_pencils(self):
        self.run_all(TABLES_TO_PENCILS)

    def test_data_to_moves(self):
        self.run_all(DATA_TO_MOVES)

    def test_loops(self):
        self.run_all(LOOPS)

    def test_texts(self):
        self.run_all(NAMES + TEXTS)

    def test_books(self):
        self.run_all(NAMES + BOOKS)

    def test_pictures(self):
        self.run_all(NAMES + PICTURES)

    def test_console(self):
        self.run_all(CONSOLE)

    def test_claims(self):
        self.run_all(NAMES + CLAIMS)

    def test_readme(self):
        text = (pathlib.Path(__file__).resolve().parent.parent / "README.md").read_text(encoding="ascii")
        self.assertGreater(len(list(examples(text))), 5)
        self.run_all(text)


if __name__ == "__main__":
    unittest.main()
