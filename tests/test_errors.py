import unittest

from hissroom import errors
from hissroom.errors import HissError, NoWay

WITH_A_TEXT = (
    "BadBars", "BadMake", "BadNumber", "BadText", "BadName", "BadAge", "BadBar", "BadPlace", "Taken", "Full",
    "NoTake", "Shut", "Joined", "Needed", "NothingLeft", "BadSize",
)


class Errors(unittest.TestCase):
    def test_hiss_error_is_a_value_error(self):
        self.assertEqual(HissError.__bases__, (ValueError,))
        self.assertEqual(str(HissError("any words")), "any words")

    def test_each_is_straight_under_hiss_error(self):
        for name in WITH_A_TEXT + ("NoWay",):
            with self.subTest(name):
                kind = getattr(errors, name)
                self.assertEqual(kind.__name__, name)
                self.assertEqual(kind.__bases__, (HissError,))

    def test_they_are_classes_of_their_own(self):
        kinds = set(getattr(errors, name) for name in WITH_A_TEXT + ("NoWay", "HissError"))
        self.assertEqual(len(kinds), len(WITH_A_TEXT) + 2)

    def test_each_is_made_with_a_text_and_taken_by_name(self):
        for name in WITH_A_TEXT:
            with self.subTest(name):
                kind = getattr(errors, name)
                with self.assertRaises(kind) as caught:
                    raise kind("some words")
                self.assertEqual(str(caught.exception), "some words")
                self.assertIsInstance(caught.exception, HissError)
                self.assertIsInstance(caught.exception, ValueError)

    def test_no_way_bears_the_two_ends(self):
        with self.assertRaises(HissError) as caught:
            raise NoWay(3, 7)
        self.assertIs(type(caught.exception), NoWay)
        self.assertEqual(caught.exception.first, 3)
        self.assertEqual(caught.exception.behind, 7)
        by_names = NoWay(behind=2, first=0)
        self.assertEqual((by_names.first, by_names.behind), (0, 2))


if __name__ == "__main__":
    unittest.main()
