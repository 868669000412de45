"""[4]: the classes of errors, and what they keep."""

import unittest

from rootsabove import errors

GIVEN = ("InvalidTable", "InvalidFraction", "InvalidIndex", "InvalidNumber", "InvalidCounts", "InvalidPlaces",
         "InvalidBounds")
INDEX = ("InvalidRow", "InvalidRows", "InvalidRoots", "InvalidSquares", "InvalidTurns", "InvalidBorder")
WHATEVER = (None, 0, True, "text", b"bytes", (), [1], {"a": 1}, {1, 2}, object(), 10 ** 5000, ValueError)


class Errors(unittest.TestCase):
    def test_base(self):
        self.assertEqual(errors.RootError.__bases__, (ValueError,))
        self.assertEqual(vars(errors.RootError()), {})
        self.assertIsInstance(errors.RootError(), ValueError)

    def test_tree(self):
        for name in GIVEN + INDEX:
            with self.subTest(name):
                made = getattr(errors, name)
                self.assertEqual(made.__bases__, (errors.RootError,))
                self.assertEqual(made.__mro__, (made, errors.RootError, ValueError, Exception, BaseException, object))
                self.assertEqual(made.__module__, "rootsabove.errors")

    def test_no_other_class(self):
        found = sorted(name for name, value in vars(errors).items() if isinstance(value, type))
        self.assertEqual(found, sorted(GIVEN + INDEX + ("RootError",)))

    def test_keeps_whatever_it_is(self):
        for names, attribute in ((GIVEN, "given"), (INDEX, "index")):
            for name in names:
                made = getattr(errors, name)
                for value in WHATEVER:
                    with self.subTest(name=name, kind=type(value)):
                        self.assertIs(getattr(made(value), attribute), value)
                        self.assertIs(getattr(made(**{attribute: value}), attribute), value)
                        self.assertEqual(list(vars(made(value))), [attribute])

    def test_attribute_is_wanted(self):
        for names, other in ((GIVEN, "index"), (INDEX, "given")):
            for name in names:
                made = getattr(errors, name)
                self.assertRaises(TypeError, made)
                self.assertRaises(TypeError, made, 1, 2)
                with self.assertRaises(TypeError):
                    made(**{other: 1})

    def test_message_of_great_numbers(self):
        # Python shows no number of so many figures as a text.
        for name in GIVEN + INDEX:
            self.assertNotEqual(str(getattr(errors, name)(10 ** 5000)), "")


if __name__ == "__main__":
    unittest.main()
