import unittest

from minortables import errors

NAMES = ["NoTable", "NoFit", "NoPlace", "NoStep", "NoSteps", "NoText", "NoName", "NoBack"]


class Errors(unittest.TestCase):
    def test_minor_error_is_a_value_error(self):
        self.assertEqual(errors.MinorError.__bases__, (ValueError,))

    def test_each_refusal_stands_straight_under_minor_error(self):
        for name in NAMES:
            with self.subTest(name):
                self.assertEqual(getattr(errors, name).__bases__, (errors.MinorError,))

    def test_no_refusal_stands_under_another(self):
        for one in NAMES:
            for other in NAMES:
                with self.subTest(one=one, other=other):
                    under = issubclass(getattr(errors, one), getattr(errors, other))
                    self.assertEqual(under, one == other)

    def test_there_are_no_other_classes(self):
        classes = [name for name, thing in vars(errors).items() if isinstance(thing, type)]
        self.assertEqual(sorted(classes), sorted(NAMES + ["MinorError"]))

    def test_each_refusal_is_taken_as_minor_error(self):
        for name in NAMES:
            with self.subTest(name), self.assertRaises(errors.MinorError):
                raise getattr(errors, name)("why")
