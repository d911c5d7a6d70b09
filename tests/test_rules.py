import unittest

from foldrule.errors import BadFolding, BadRule
from foldrule.rules import joints, span
from tests.helpers import BAD_FOLDINGS, BAD_RULES, WRONG_BESIDE_ANY, all_foldings, good_folding, places_of

# Rule, folding, joints, span: all worked out by hand.
FOLDED = [
    ([1], [], [0, 1], 1),
    ([60], [], [0, 60], 60),
    ([7], [], [0, 7], 7),
    ([5, 10], [0], [0, 5, 15], 15),
    ([5, 10], [1], [0, 5, -5], 10),
    ([10, 5], [1], [0, 10, 5], 10),
    ([4, 4], [1], [0, 4, 0], 4),
    ([30, 12, 25], [0, 1], [0, 30, 42, 17], 42),
    ([3, 4, 5], [0, 0], [0, 3, 7, 12], 12),
    ([3, 4, 5], [0, 1], [0, 3, 7, 2], 7),
    ([3, 4, 5], [1, 0], [0, 3, -1, -6], 9),
    ([3, 4, 5], [1, 1], [0, 3, -1, 4], 5),
    ([5, 20, 3], [1, 1], [0, 5, -15, -12], 20),
    ([1, 60, 1, 60], [1, 0, 1], [0, 1, -59, -60, 0], 61),
    ([60, 1, 60], [1, 1], [0, 60, 59, 119], 119),
    ([60] * 12, [0] * 11, [60 * k for k in range(13)], 720),
    ([60] * 12, [1] * 11, [0, 60] * 6 + [0], 60),
    ([1] * 12, [0] * 11, list(range(13)), 12),
    ([1] * 12, [1] * 11, [0, 1] * 6 + [0], 1),
    (
        [1, 2, 3, 4, 5, 6, 7, 8, 9, 10, 11, 12],
        [0, 0, 1, 0, 1, 1, 0, 0, 1, 1, 0],
        [0, 1, 3, 6, 2, -3, 3, -4, -12, -21, -11, -22, -34],
        40,
    ),
]


class RulesTest(unittest.TestCase):
    def assert_refused(self, refusal, rule, folding):
        for asked in [joints, span]:
            with self.subTest(asked=asked.__name__, pieces=len(rule), turns=len(folding)):
                handed_rule = list(rule)
                handed_folding = list(folding)
                with self.assertRaises(ValueError) as taken:
                    asked(handed_rule, handed_folding)
                self.assertIs(type(taken.exception), refusal)
                self.assertEqual(handed_rule, rule)
                self.assertEqual(handed_folding, folding)


class JointsAndSpanTest(RulesTest):
    def test_joints_worked_by_hand(self):
        for rule, folding, places, width in FOLDED:
            with self.subTest(rule=rule, folding=folding):
                self.assertEqual(joints(rule, folding), places)

    def test_span_worked_by_hand(self):
        for rule, folding, places, width in FOLDED:
            with self.subTest(rule=rule, folding=folding):
                self.assertEqual(span(rule, folding), width)

    def test_every_folding_of_some_rules(self):
        for rule in [[9], [1, 60], [30, 12, 25], [8, 8, 8, 8], [60, 1, 59, 2, 58, 3], [13, 7, 41, 5, 60, 22, 1, 37]]:
            for folding in all_foldings(rule):
                with self.subTest(rule=rule, folding=folding):
                    expected = places_of(rule, folding)
                    self.assertEqual(joints(rule, folding), expected)
                    self.assertEqual(span(rule, folding), max(expected) - min(expected))

    def test_kinds_of_what_is_told(self):
        for rule, folding, places, width in FOLDED:
            with self.subTest(rule=rule, folding=folding):
                told = joints(rule, folding)
                self.assertIs(type(told), list)
                self.assertEqual({type(place) for place in told}, {int})
                self.assertIs(type(span(rule, folding)), int)

    def test_arguments_bear_the_names_of_the_interface(self):
        self.assertEqual(joints(rule=[5, 10], folding=[1]), [0, 5, -5])
        self.assertEqual(span(rule=[5, 10], folding=[1]), 10)


class RefusalsTest(RulesTest):
    def test_every_length_from_1_to_60_is_taken(self):
        for length in range(1, 61):
            self.assertEqual(joints([length], []), [0, length])
            self.assertEqual(span([length], []), length)

    def test_every_number_of_pieces_from_1_to_12_is_taken(self):
        for pieces in range(1, 13):
            self.assertEqual(joints([2] * pieces, [0] * (pieces - 1)), [2 * k for k in range(pieces + 1)])
            self.assertEqual(span([2] * pieces, [0] * (pieces - 1)), 2 * pieces)

    def test_bad_rule(self):
        for rule in BAD_RULES:
            self.assert_refused(BadRule, rule, good_folding(rule))

    def test_bad_folding(self):
        for rule, folding in BAD_FOLDINGS:
            self.assert_refused(BadFolding, rule, folding)

    def test_bad_rule_comes_ahead_of_bad_folding(self):
        for rule in BAD_RULES:
            for folding in WRONG_BESIDE_ANY:
                self.assert_refused(BadRule, rule, folding)

    def test_bad_rule_also_where_only_the_folding_is_empty(self):
        for rule in BAD_RULES:
            self.assert_refused(BadRule, rule, [])


class HandedInAndToldTest(RulesTest):
    def test_what_is_handed_in_is_unchanged(self):
        for rule, folding, places, width in FOLDED:
            for asked in [joints, span]:
                with self.subTest(asked=asked.__name__, rule=rule, folding=folding):
                    handed_rule = list(rule)
                    handed_folding = list(folding)
                    asked(handed_rule, handed_folding)
                    self.assertEqual(handed_rule, rule)
                    self.assertEqual(handed_folding, folding)

    def test_what_is_handed_in_may_be_changed_later(self):
        rule = [30, 12, 25]
        folding = [0, 1]
        told = joints(rule, folding)
        rule[0] = 1
        folding[1] = 0
        self.assertEqual(told, [0, 30, 42, 17])
        self.assertEqual(joints(rule, folding), [0, 1, 13, 38])
        self.assertEqual(span(rule, folding), 38)
        rule.append(2)
        folding.append(1)
        self.assertEqual(told, [0, 30, 42, 17])
        self.assertEqual(joints(rule, folding), [0, 1, 13, 38, 36])
        self.assertEqual(span(rule, folding), 38)

    def test_a_list_mended_after_a_refusal_is_taken(self):
        rule = [5, 0]
        folding = [2]
        self.assert_refused(BadRule, rule, folding)
        rule[1] = 10
        self.assert_refused(BadFolding, rule, folding)
        folding[0] = 1
        self.assertEqual(joints(rule, folding), [0, 5, -5])
        self.assertEqual(span(rule, folding), 10)

    def test_two_calls_tell_two_lists(self):
        for rule, folding, places, width in FOLDED:
            with self.subTest(rule=rule, folding=folding):
                one = joints(rule, folding)
                other = joints(rule, folding)
                self.assertIsNot(one, other)
                one[0] = 99
                one.append(7)
                self.assertEqual(other, places)
                self.assertEqual(joints(rule, folding), places)
                self.assertEqual(span(rule, folding), width)

    def test_what_is_told_is_none_of_what_is_handed_in(self):
        rule = [5, 10]
        folding = [1]
        told = joints(rule, folding)
        told.clear()
        self.assertEqual(rule, [5, 10])
        self.assertEqual(folding, [1])


if __name__ == "__main__":
    unittest.main()
