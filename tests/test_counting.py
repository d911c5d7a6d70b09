import unittest

from foldrule.counting import folding_at, many_fits, number_of
from foldrule.errors import NoSuch
from tests.helpers import LONG_RULE, RULES, all_foldings, all_widths, cases_about

# Rule, case, all the foldings that fit in their order: all worked out by hand.
FITTING = [
    ([7], 7, [[]]),
    ([7], 6, []),
    ([5, 10], 15, [[0], [1]]),
    ([5, 10], 14, [[1]]),
    ([5, 10], 10, [[1]]),
    ([5, 10], 9, []),
    ([3, 4, 5], 12, [[0, 0], [0, 1], [1, 0], [1, 1]]),
    ([3, 4, 5], 11, [[0, 1], [1, 0], [1, 1]]),
    ([3, 4, 5], 8, [[0, 1], [1, 1]]),
    ([3, 4, 5], 5, [[1, 1]]),
    ([30, 12, 25], 42, [[0, 1], [1, 0]]),
    ([30, 12, 25], 43, [[0, 1], [1, 0], [1, 1]]),
    ([5, 1, 1], 5, [[1, 0], [1, 1]]),
    ([1] * 12, 1, [[1] * 11]),
    ([60] * 12, 60, [[1] * 11]),
    ([60] * 12, 59, []),
]


class CountingTest(unittest.TestCase):
    def assert_no_number(self, rule, case, number):
        with self.assertRaises(ValueError) as taken:
            folding_at(rule, case, number)
        self.assertIs(type(taken.exception), NoSuch)

    def assert_not_numbered(self, rule, case, folding):
        with self.assertRaises(ValueError) as taken:
            number_of(rule, case, folding)
        self.assertIs(type(taken.exception), NoSuch)

    def assert_numbered(self, rule, case, foldings):
        """These foldings, and no others, have the numbers from nought on."""
        self.assertEqual(many_fits(rule, case), len(foldings))
        self.assertEqual([folding_at(rule, case, number) for number in range(len(foldings))], foldings)
        self.assertEqual([number_of(rule, case, folding) for folding in foldings], list(range(len(foldings))))
        for number in [-1, -2, -len(foldings), len(foldings), len(foldings) + 1, 10 ** 6, 10 ** 5000, -(10 ** 5000)]:
            if number not in range(len(foldings)):
                self.assert_no_number(rule, case, number)


class NumbersTest(CountingTest):
    def test_worked_by_hand(self):
        for rule, case, foldings in FITTING:
            with self.subTest(rule=rule, case=case):
                self.assert_numbered(rule, case, foldings)

    def test_every_folding_of_every_rule(self):
        for rule in RULES:
            widths = all_widths(rule)
            for case in cases_about(widths):
                foldings = [folding for folding, width in widths if width <= case]
                # More numbers in every case would take minutes: the tests below go through them in a few cases.
                if len(foldings) <= 300:
                    with self.subTest(rule=rule, case=case):
                        self.assert_numbered(rule, case, foldings)

    def test_every_folding_of_long_rules(self):
        for rule in [rule for rule in RULES if len(rule) in (10, 11)] + [LONG_RULE]:
            widths = all_widths(rule)
            for case in [120, sum(rule)]:
                with self.subTest(rule=rule, case=case):
                    self.assert_numbered(rule, case, [folding for folding, width in widths if width <= case])

    def test_every_folding_of_twelve_pieces_of_one_length(self):
        for length in [1, 60]:
            widths = all_widths([length] * 12)
            for case in [length - 1, length, 2 * length - 1, 2 * length, 12 * length - 1, 12 * length]:
                with self.subTest(length=length, case=case):
                    self.assert_numbered([length] * 12, case, [folding for folding, width in widths if width <= case])

    def test_how_many_and_some_numbers_in_every_case(self):
        for rule in RULES + [LONG_RULE]:
            widths = all_widths(rule)
            for case in cases_about(widths):
                foldings = [folding for folding, width in widths if width <= case]
                with self.subTest(rule=rule, case=case):
                    self.assertEqual(many_fits(rule, case), len(foldings))
                    for number in list(range(len(foldings)))[::97] + list(range(len(foldings)))[-1:]:
                        self.assertEqual(folding_at(rule, case, number), foldings[number])
                        self.assertEqual(number_of(rule, case, foldings[number]), number)

    def test_how_many_in_each_case_of_a_long_rule(self):
        widths = [width for folding, width in all_widths(LONG_RULE)]
        for case in range(0, 831, 7):
            with self.subTest(case=case):
                self.assertEqual(many_fits(LONG_RULE, case), len([width for width in widths if width <= case]))

    def test_what_does_not_fit_has_no_number(self):
        for rule in RULES + [LONG_RULE]:
            widths = all_widths(rule)
            for case in cases_about(widths):
                for folding, width in widths:
                    if width > case:
                        self.assert_not_numbered(rule, case, folding)

    def test_one_less_than_the_span(self):
        for rule in RULES[:15]:
            for folding, width in all_widths(rule):
                with self.subTest(rule=rule, folding=folding):
                    self.assertEqual(folding_at(rule, width, number_of(rule, width, folding)), folding)
                    self.assert_not_numbered(rule, width - 1, folding)


class EdgesTest(CountingTest):
    def test_one_piece(self):
        for length in range(1, 61):
            self.assert_numbered([length], length, [[]])
            self.assert_numbered([length], length - 1, [])
            self.assert_not_numbered([length], length - 1, [])

    def test_a_case_in_which_none_fits_has_no_numbers(self):
        for rule in RULES + [LONG_RULE]:
            for case in [-60, -1, 0, max(rule) - 1]:
                with self.subTest(rule=rule, case=case):
                    self.assertEqual(many_fits(rule, case), 0)
                    for number in [-1, 0, 1, 2, 2047, 2048]:
                        self.assert_no_number(rule, case, number)

    def test_all_fit_in_the_longest_case_and_beyond(self):
        for rule in RULES + [LONG_RULE]:
            last = 2 ** (len(rule) - 1) - 1
            for case in [sum(rule), 800, 801, 5000]:
                with self.subTest(rule=rule, case=case):
                    self.assertEqual(many_fits(rule, case), last + 1)
                    self.assertEqual(folding_at(rule, case, 0), [0] * (len(rule) - 1))
                    self.assertEqual(folding_at(rule, case, last), [1] * (len(rule) - 1))
                    self.assertEqual(number_of(rule, case, [1] * (len(rule) - 1)), last)
                    self.assert_no_number(rule, case, -1)
                    self.assert_no_number(rule, case, last + 1)

    def test_numbers_rise_with_the_order_of_the_foldings(self):
        rule = [2, 7, 1, 8, 2, 8, 1]
        self.assertEqual([number_of(rule, 800, folding) for folding in all_foldings(rule)], list(range(64)))
        told = [folding_at(rule, 12, number) for number in range(many_fits(rule, 12))]
        self.assertEqual(told, sorted(told))

    def test_kinds_of_what_is_told(self):
        for rule, case, foldings in FITTING:
            self.assertIs(type(many_fits(rule, case)), int)
            for number, folding in enumerate(foldings):
                told = folding_at(rule, case, number)
                self.assertIs(type(told), list)
                self.assertLessEqual({type(turn) for turn in told}, {int})
                self.assertIs(type(number_of(rule, case, folding)), int)

    def test_arguments_bear_the_names_of_the_interface(self):
        self.assertEqual(many_fits(rule=[5, 10], case=14), 1)
        self.assertEqual(folding_at(rule=[5, 10], case=14, number=0), [1])
        self.assertEqual(number_of(rule=[5, 10], case=14, folding=[1]), 0)


if __name__ == "__main__":
    unittest.main()
