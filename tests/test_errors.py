import unittest

from fourfold import errors

NAMES = ["NoPicture", "NoSpot", "BadBox", "Unlike", "NoRule", "NoBlocks", "NoChange", "NoNumber", "NothingDone",
         "NoText", "NoName"]


class TestErrors(unittest.TestCase):
    def test_four_error_is_a_value_error(self):
        self.assertEqual(errors.FourError.__bases__, (ValueError,))

    def test_all_refusals_stand_straight_under_it(self):
        for name in NAMES:
            with self.subTest(name=name):
                self.assertEqual(getattr(errors, name).__bases__, (errors.FourError,))

    def test_none_stands_under_another(self):
        kinds = [getattr(errors, name) for name in NAMES]
        for one in kinds:
            self.assertEqual([kind for kind in kinds if issubclass(one, kind)], [one])

    def test_they_are_raised_with_words(self):
        for name in NAMES:
            with self.assertRaises(errors.FourError) as caught:
                raise getattr(errors, name)("some words")
            self.assertEqual(str(caught.exception), "some words")
