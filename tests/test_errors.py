import unittest

from foldrule.errors import BadFolding, BadRule, NoSuch, NoText, RuleError

REFUSALS = [BadRule, BadFolding, NoSuch, NoText]


class ErrorsTest(unittest.TestCase):
    def test_rule_error_stands_straight_under_value_error(self):
        self.assertEqual(RuleError.__bases__, (ValueError,))

    def test_each_refusal_stands_straight_under_rule_error(self):
        for refusal in REFUSALS:
            with self.subTest(refusal=refusal.__name__):
                self.assertEqual(refusal.__bases__, (RuleError,))

    def test_no_refusal_stands_under_another(self):
        for one in REFUSALS:
            for other in REFUSALS:
                if one is not other:
                    with self.subTest(one=one.__name__, other=other.__name__):
                        self.assertFalse(issubclass(one, other))

    def test_names_are_those_of_the_interface(self):
        names = [refusal.__name__ for refusal in [RuleError] + REFUSALS]
        self.assertEqual(names, ["RuleError", "BadRule", "BadFolding", "NoSuch", "NoText"])

    def test_each_can_be_raised_and_taken_as_a_value_error(self):
        for refusal in [RuleError] + REFUSALS:
            with self.subTest(refusal=refusal.__name__):
                with self.assertRaises(ValueError) as taken:
                    raise refusal("words")
                self.assertIs(type(taken.exception), refusal)


if __name__ == "__main__":
    unittest.main()
