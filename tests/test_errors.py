import unittest

from sliders import errors

NAMES = [
    "InvalidRowError", "InvalidMoveError", "InvalidMovesError", "InvalidSliderError", "InvalidNumberError",
    "InvalidSharesError", "InvalidLogError", "InvalidRoundError", "InvalidLocksError", "InvalidFormatError",
    "NotShortestError", "LockedError", "TooMuchError", "StepError", "FullError", "EmptyHistoryError",
    "StartedError", "NotStartedError", "NoMoveError", "NoOriginError",
]
WITH_INDEX = ["NoMoveError", "NoOriginError"]


class ErrorClasses(unittest.TestCase):
    def test_base_is_a_direct_subclass_of_value_error(self):
        self.assertEqual(errors.SliderError.__bases__, (ValueError,))

    def test_twenty_direct_subclasses(self):
        self.assertEqual(len(set(NAMES)), 20)
        for name in NAMES:
            with self.subTest(name):
                self.assertEqual(getattr(errors, name).__bases__, (errors.SliderError,))
                self.assertEqual(getattr(errors, name).__module__, "sliders.errors")

    def test_none_is_a_subclass_of_another_one(self):
        for name in NAMES:
            for other in NAMES:
                with self.subTest(name + " " + other):
                    self.assertEqual(issubclass(getattr(errors, name), getattr(errors, other)), name == other)

    def test_constructed_with_one_string(self):
        for name in ["SliderError"] + [name for name in NAMES if name not in WITH_INDEX]:
            with self.subTest(name):
                self.assertEqual(str(getattr(errors, name)("some words")), "some words")

    def test_index_is_kept(self):
        for name in WITH_INDEX:
            for index in (0, 1, 40):
                with self.subTest(name, index=index):
                    self.assertEqual(getattr(errors, name)(index).index, index)
                    self.assertEqual(getattr(errors, name)(index=index).index, index)

    def test_caught_as_slider_error_and_value_error(self):
        for name in NAMES:
            for base in (errors.SliderError, ValueError):
                with self.subTest(name, base=base):
                    with self.assertRaises(base):
                        raise getattr(errors, name)(3 if name in WITH_INDEX else "words")


if __name__ == "__main__":
    unittest.main()
