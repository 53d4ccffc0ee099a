"""The examples of the interface, with the answers that stand there."""

import unittest

from withinrim import errors

STAGE_ONE = '''
>>> from withinrim.numbers import compared, fraction_of, lies, number_of, number_over, number_product, rim_fraction, rim_number, size
>>> from withinrim.rows import row_at, row_back, row_common, row_divided, row_from, row_product, row_value
>>> from withinrim.realrows import below_at, is_never_below, leaps, real_roots, real_roots_within
>>> [fraction_of(6, -4), compared((-3, 2), (-5, 3)), number_of(1, 2, 2), number_product(number_of(1, 2, 2), number_of(0, 2)), number_over(number_of(5), number_of(2, 1)) == number_of(2, -1)]
[(-3, 2), 1, ((1, 2), (1, 1)), ((-2, 1), (1, 1)), True]
>>> [size(number_of(3, 4)), lies(number_of(3, 4, 5)), rim_number((1, 2)), rim_fraction(((3, 5), (4, 5))), rim_fraction(number_of(-1))]
[(25, 1), 'rim', ((3, 5), (4, 5)), (1, 2), None]
>>> nought, one, half = number_of(0), number_of(1), number_of(1, 0, 2)
>>> cubic = (one, number_of(-5, 0, 2), half, one)
>>> row_divided(cubic, (number_of(-1), nought, one)) == ((half, one), (number_of(3, 0, 2), number_of(-3, 0, 2)))
True
>>> [row_common(cubic, (number_of(-1), nought, one)) == (number_of(-1), one), row_at((nought, nought, one), one) == (one, number_of(2), one), row_from((one, nought)) == (one,)]
[True, True, True]
>>> flat = ((1, 1), (-2, 1), (2, 1), (-2, 1), (1, 1))
>>> [real_roots(flat), is_never_below(flat), real_roots(((0, 1), (-1, 1), (0, 1), (1, 1))), real_roots_within(((0, 1), (-1, 1), (0, 1), (1, 1)), (-1, 1), (1, 1)), leaps(((0, 1), (1, 1)), ((-1, 1),))]
[(1, 1), True, (3,), 2, -1]
'''


def examples(text):
    """Pairs of a row to run and the answer that stands below it, None for none."""
    lines = [line for line in text.split("\n") if line]
    for at, line in enumerate(lines):
        if line.startswith(">>> "):
            below = lines[at + 1] if at + 1 < len(lines) else ">>> "
            yield line[4:], None if below.startswith(">>> ") else below


class ExamplesTest(unittest.TestCase):
    def run_all(self, text):
        names = {}
        for code, answer in examples(text):
            if answer is None:
                exec(code, names)
            elif answer.startswith("raises "):
                self.check_raised(code, names, answer[len("raises "):])
            else:
                self.assertEqual(repr(eval(code, names)), answer, code)

    def check_raised(self, code, names, told):
        wanted = eval(told, dict(vars(errors)))
        with self.assertRaises(ValueError) as caught:
            eval(code, names)
        self.assertIs(type(caught.exception), type(wanted), code)
        self.assertEqual(vars(caught.exception), vars(wanted), code)

    def test_numbers_rows_real_rows(self):
        self.run_all(STAGE_ONE)


if __name__ == "__main__":
    unittest.main()
