"""The classes of errors: their attributes, and what they stand under."""

import unittest

from withinrim import errors

GIVEN = ("InvalidFraction", "InvalidNumber", "InvalidRow", "InvalidQuotient", "InvalidPlace", "InvalidWhole",
         "InvalidRealRow", "InvalidCount", "InvalidTurn", "InvalidName", "InvalidLine", "InvalidPencil", "InvalidWord",
         "InvalidClaim")
INDEX = ("InvalidData", "InvalidNumbers", "InvalidPlaces", "InvalidValues", "InvalidTable", "InvalidMix",
         "InvalidMixes", "InvalidPlant")
WITHOUT = ("NotNow", "Alike", "TooMany", "NoSeries")
KEPT = (None, 0, -3, True, "", "text", (1, 2), ((1, 1), (0, 1)), [1, [2]], {"a": 1}, b"x", object())


class ErrorsTest(unittest.TestCase):
    def test_one_attribute(self):
        for names, attribute in ((GIVEN, "given"), (INDEX, "index")):
            for name in names:
                kind = getattr(errors, name)
                for value in KEPT:
                    self.assertIs(getattr(kind(value), attribute), value)
                    self.assertIs(getattr(kind(**{attribute: value}), attribute), value)
                self.assertRaises(TypeError, kind)

    def test_text_has_two(self):
        for line in KEPT:
            for word in KEPT:
                for made in (errors.InvalidText(line, word), errors.InvalidText(word=word, line=line)):
                    self.assertIs(made.line, line)
                    self.assertIs(made.word, word)

    def test_without_attributes(self):
        for name in WITHOUT + ("RimError",):
            self.assertIsInstance(getattr(errors, name)(), ValueError)

    def test_all_stand_under_the_base_alone(self):
        self.assertEqual(errors.RimError.__bases__, (ValueError,))
        for name in GIVEN + INDEX + WITHOUT + ("InvalidText",):
            kind = getattr(errors, name)
            self.assertEqual(kind.__bases__, (errors.RimError,), name)
            self.assertEqual(kind.__module__, "withinrim.errors")

    def test_they_are_caught_as_told(self):
        for name in GIVEN + INDEX:
            for kind in (errors.RimError, ValueError, getattr(errors, name)):
                with self.assertRaises(kind):
                    raise getattr(errors, name)((2, 4))

    def test_nothing_else_is_defined(self):
        classes = {name for name, value in vars(errors).items() if isinstance(value, type)}
        self.assertEqual(classes, set(GIVEN + INDEX + WITHOUT + ("InvalidText", "RimError")))


if __name__ == "__main__":
    unittest.main()
