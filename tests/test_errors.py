import inspect
import unittest

from longhold import errors

REFUSALS = ["BadTerm", "BadFact", "BadLine", "NoFolk", "NoField", "NoFact", "NoStand", "Told", "Full"]


class Refusals(unittest.TestCase):
    def test_land_error_is_straight_under_value_error(self):
        self.assertEqual(errors.LandError.__bases__, (ValueError,))

    def test_each_refusal_is_straight_under_land_error(self):
        for name in REFUSALS:
            with self.subTest(name):
                self.assertEqual(getattr(errors, name).__bases__, (errors.LandError,))

    def test_none_is_under_another_or_the_same_as_another(self):
        for name in REFUSALS:
            for other in REFUSALS:
                under = issubclass(getattr(errors, name), getattr(errors, other))
                self.assertEqual(under, name == other, (name, other))

    def test_all_are_defined_here_under_their_names_and_no_others(self):
        found = {
            name: one.__module__ for name, one in vars(errors).items() if inspect.isclass(one) and one.__name__ == name
        }
        self.assertEqual(found, {name: "longhold.errors" for name in ["LandError", *REFUSALS]})

    def test_each_is_raised_with_words_and_caught_as_any_refusal(self):
        for name in ["LandError", *REFUSALS]:
            with self.subTest(name), self.assertRaises(errors.LandError) as caught:
                raise getattr(errors, name)("why")
            self.assertEqual(str(caught.exception), "why")


if __name__ == "__main__":
    unittest.main()
