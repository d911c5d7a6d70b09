import unittest

from foldrule.cases import by_half, fits, reachable, shortest_case
from tests.helpers import LONG_RULE, RULES, all_foldings, all_widths, cases_about, width_of

# Rule, the shortest case's length, the first folding that fits in it: all worked out by hand.
SHORTEST = [
    ([1], 1, []),
    ([60], 60, []),
    ([5, 10], 10, [1]),
    ([10, 5], 10, [1]),
    ([3, 4, 5], 5, [1, 1]),
    ([30, 12, 25], 37, [1, 0]),
    ([5, 20, 3], 20, [1, 1]),
    ([5, 1, 1], 5, [1, 0]),
    ([1, 1, 5], 5, [0, 1]),
    ([2, 1, 1, 2], 2, [1, 0, 1]),
    ([60] * 12, 60, [1] * 11),
    ([1] * 12, 1, [1] * 11),
]

# Rule, case, lists of places: all worked out by hand.
REACHABLE = [
    ([2], 4, [[0, 1, 2, 3, 4], [0, 1, 2, 3, 4]]),
    ([3], 4, [[0, 1, 2, 3, 4], [0, 1, 3, 4]]),
    ([4], 4, [[0, 1, 2, 3, 4], [0, 4]]),
    ([5], 4, [[0, 1, 2, 3, 4], []]),
    ([1], 0, [[0], []]),
    ([1, 1], 0, [[0], [], []]),
    ([3, 4], 5, [[0, 1, 2, 3, 4, 5], [0, 1, 2, 3, 4, 5], [0, 1, 4, 5]]),
    ([4, 3], 5, [[0, 1, 2, 3, 4, 5], [0, 1, 4, 5], [1, 2, 3, 4]]),
    ([3, 2, 3], 3, [[0, 1, 2, 3], [0, 3], [1, 2], []]),
    ([3, 5, 1], 4, [[0, 1, 2, 3, 4], [0, 1, 3, 4], [], []]),
    ([1] * 12, 1, [[0, 1]] * 13),
    ([60] * 12, 60, [list(range(61))] + [[0, 60]] * 12),
]

# Rule, folding by half, with the places come to: all worked out by hand.
BY_HALF = [
    ([7], []),  # 7
    ([5, 10], [1]),  # 5, -5
    ([5, 10, 4], [1, 1]),  # 5, -5, -1
    ([5, 10, 4, 6], [1, 1, 0]),  # 5, -5, -1, 5
    ([30, 12, 25], [1, 0]),  # 30, 18, -7
    ([4, 4, 4], [1, 1]),  # 4, 0, 4: from nought upward
    ([9, 2, 3, 4, 1], [1, 0, 0, 1]),  # 9, 7, 4, 0, 1
    ([3, 4, 1, 1], [1, 1, 0]),  # 3, -1, 0, 1
    ([60, 1, 59, 2], [1, 0, 1]),  # 60, 59, 0, 2
    ([60] * 12, [1] * 11),  # 60, 0, 60, 0, ...
    ([1, 60] * 2, [1, 1, 0]),  # 1, -59, -58, 2
]


def lists_of_point_7(rule, case):
    ahead = set(range(case + 1))
    lists = [sorted(ahead)]
    for length in rule:
        ahead = {place for place in range(case + 1) if place - length in ahead or place + length in ahead}
        lists.append(sorted(ahead))
    return lists


class FitsTest(unittest.TestCase):
    def test_every_folding_of_every_rule(self):
        for rule in RULES + [LONG_RULE]:
            widths = all_widths(rule)
            for case in cases_about(widths):
                with self.subTest(rule=rule, case=case):
                    told = [fits(rule, folding, case) for folding, width in widths]
                    self.assertEqual(told, [width <= case for folding, width in widths])

    def test_just_the_span_and_one_less(self):
        for rule in RULES[:15]:
            for folding, width in all_widths(rule):
                with self.subTest(rule=rule, folding=folding):
                    self.assertIs(fits(rule, folding, width), True)
                    self.assertIs(fits(rule, folding, width - 1), False)
                    self.assertIs(fits(rule, folding, width + 1), True)

    def test_worked_by_hand(self):
        self.assertIs(fits([30, 12, 25], [0, 1], 42), True)
        self.assertIs(fits([30, 12, 25], [0, 1], 41), False)
        self.assertIs(fits([5, 10], [1], 10), True)
        self.assertIs(fits([5, 10], [1], 9), False)
        self.assertIs(fits([60] * 12, [0] * 11, 720), True)
        self.assertIs(fits([60] * 12, [0] * 11, 719), False)

    def test_one_piece_with_the_empty_folding(self):
        for length in range(1, 61):
            self.assertIs(fits([length], [], length), True)
            self.assertIs(fits([length], [], length - 1), False)

    def test_cases_at_and_beyond_the_bounds_are_not_refused(self):
        for rule in RULES:
            for folding in [[0] * (len(rule) - 1), [1] * (len(rule) - 1)]:
                for case in [-60, -2, -1, 0]:
                    self.assertIs(fits(rule, folding, case), False)
                for case in [799, 800, 801, 900, 5000]:
                    self.assertIs(fits(rule, folding, case), True)

    def test_what_fits_in_a_case_fits_in_every_longer_one(self):
        for rule in [[30, 12, 25], [3, 1, 4, 1, 5]]:
            for folding in all_foldings(rule):
                told = [fits(rule, folding, case) for case in range(801)]
                self.assertEqual(told, sorted(told))

    def test_arguments_bear_the_names_of_the_interface(self):
        self.assertIs(fits(rule=[5, 10], folding=[1], case=10), True)


class ShortestCaseTest(unittest.TestCase):
    def test_worked_by_hand(self):
        for rule, length, folding in SHORTEST:
            with self.subTest(rule=rule):
                self.assertEqual(shortest_case(rule), (length, folding))

    def test_least_span_and_first_folding_that_has_it(self):
        for rule in RULES + [LONG_RULE]:
            widths = all_widths(rule)
            least = min(width for folding, width in widths)
            first = [folding for folding, width in widths if width == least][0]
            with self.subTest(rule=rule):
                self.assertEqual(shortest_case(rule), (least, first))

    def test_every_rule_of_four_short_pieces(self):
        for code in range(6 ** 4):
            rule = [code // 6 ** k % 6 + 1 for k in range(4)]
            widths = [(width, folding) for folding, width in all_widths(rule)]
            self.assertEqual(shortest_case(rule), min(widths), rule)

    def test_no_shorter_than_the_longest_piece_and_no_longer_than_twice_that(self):
        for rule in RULES + [LONG_RULE]:
            with self.subTest(rule=rule):
                length = shortest_case(rule)[0]
                self.assertGreaterEqual(length, max(rule))
                self.assertLessEqual(length, 2 * max(rule))

    def test_nothing_fits_in_a_shorter_one(self):
        for rule in RULES + [LONG_RULE]:
            length, folding = shortest_case(rule)
            with self.subTest(rule=rule):
                self.assertIs(fits(rule, folding, length), True)
                self.assertNotIn(True, [fits(rule, other, length - 1) for other in all_foldings(rule)])

    def test_kinds_of_what_is_told(self):
        for rule in RULES:
            told = shortest_case(rule)
            self.assertIs(type(told), tuple)
            self.assertEqual([type(part) for part in told], [int, list])
            self.assertLessEqual({type(turn) for turn in told[1]}, {int})

    def test_arguments_bear_the_names_of_the_interface(self):
        self.assertEqual(shortest_case(rule=[5, 10]), (10, [1]))


class ReachableTest(unittest.TestCase):
    def test_worked_by_hand(self):
        for rule, case, lists in REACHABLE:
            with self.subTest(rule=rule, case=case):
                self.assertEqual(reachable(rule, case), lists)

    def test_the_lists_of_point_7(self):
        for rule in RULES + [LONG_RULE]:
            for case in cases_about(all_widths(rule)):
                with self.subTest(rule=rule, case=case):
                    told = reachable(rule, case)
                    self.assertEqual(told, lists_of_point_7(rule, case))
                    self.assertEqual(len(told), len(rule) + 1)

    def test_some_folding_fits_just_where_the_last_list_is_not_empty(self):
        for rule in RULES + [LONG_RULE]:
            least = min(width for folding, width in all_widths(rule))
            for case in range(2 * max(rule) + 2):
                with self.subTest(rule=rule, case=case):
                    self.assertEqual(reachable(rule, case)[-1] != [], least <= case)

    def test_all_places_for_the_beginning(self):
        for case in [0, 1, 5, 59, 799, 800, 801, 850]:
            self.assertEqual(reachable([60, 1], case)[0], list(range(case + 1)))

    def test_a_case_below_nought_has_no_places(self):
        for case in [-1, -2, -60, -100]:
            self.assertEqual(reachable([1], case), [[], []])
            self.assertEqual(reachable([60, 1, 30], case), [[], [], [], []])

    def test_kinds_of_what_is_told(self):
        for rule, case, lists in REACHABLE:
            told = reachable(rule, case)
            self.assertIs(type(told), list)
            self.assertEqual({type(places) for places in told}, {list})
            self.assertEqual({type(place) for places in told for place in places}, {int})

    def test_arguments_bear_the_names_of_the_interface(self):
        self.assertEqual(reachable(rule=[4], case=4), [[0, 1, 2, 3, 4], [0, 4]])


class ByHalfTest(unittest.TestCase):
    def test_worked_by_hand(self):
        for rule, folding in BY_HALF:
            with self.subTest(rule=rule):
                self.assertEqual(by_half(rule), folding)

    def test_step_by_step(self):
        for rule in RULES + [LONG_RULE]:
            places = [0, rule[0]]
            for length in rule[1:]:
                places.append(places[-1] + length if places[-1] <= 0 else places[-1] - length)
            upward = [after > before for before, after in zip(places, places[1:])]
            turns = [0 if one == other else 1 for one, other in zip(upward, upward[1:])]
            with self.subTest(rule=rule):
                self.assertEqual(by_half(rule), turns)

    def test_it_fits_in_twice_the_longest_piece(self):
        for rule in RULES + [LONG_RULE]:
            with self.subTest(rule=rule):
                self.assertLessEqual(width_of(rule, by_half(rule)), 2 * max(rule))
                self.assertIs(fits(rule, by_half(rule), 2 * max(rule)), True)

    def test_kinds_of_what_is_told(self):
        for rule in RULES:
            told = by_half(rule)
            self.assertIs(type(told), list)
            self.assertLessEqual({type(turn) for turn in told}, {int})

    def test_arguments_bear_the_names_of_the_interface(self):
        self.assertEqual(by_half(rule=[5, 10]), [1])


if __name__ == "__main__":
    unittest.main()
