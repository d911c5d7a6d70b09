"""What the document promises over the whole program, asked of every function."""

import inspect
import unittest

from foldrule.cases import by_half, fits, reachable, shortest_case
from foldrule.counting import folding_at, many_fits, number_of
from foldrule.errors import BadFolding, BadRule, NoSuch, NoText
from foldrule.notes import read, shown
from foldrule.rules import joints, span
from tests.helpers import BAD_FOLDINGS, BAD_RULES, RULES, WRONG_BESIDE_ANY, all_foldings, good_folding

ARGUMENTS = [
    (joints, ["rule", "folding"]),
    (span, ["rule", "folding"]),
    (fits, ["rule", "folding", "case"]),
    (reachable, ["rule", "case"]),
    (shortest_case, ["rule"]),
    (by_half, ["rule"]),
    (many_fits, ["rule", "case"]),
    (folding_at, ["rule", "case", "number"]),
    (number_of, ["rule", "case", "folding"]),
    (shown, ["rule", "folding"]),
    (read, ["text"]),
]

HANDED_A_RULE = [(asked, names) for asked, names in ARGUMENTS if "rule" in names]
HANDED_A_FOLDING = [(asked, names) for asked, names in ARGUMENTS if "folding" in names]

# Cases in which none, some or all of the foldings fit, and numbers that none or some of them have.
CASES = [-1, 0, 1, 60, 800, 801]
NUMBERS = [-1, 0, 1, 2048]


def calls(asked_of, rule, folding):
    """Each of these functions with lists of its own made from the rule and the folding, in several cases."""
    for asked, names in asked_of:
        for case in CASES if "case" in names else [None]:
            for number in NUMBERS if "number" in names else [None]:
                values = {"rule": list(rule), "folding": list(folding), "case": case, "number": number}
                yield asked, [values[name] for name in names]


def lists_in(told):
    """The lists told, those within a list or a tuple too."""
    if not isinstance(told, (list, tuple)):
        return []
    own = [told] if isinstance(told, list) else []
    return own + [found for part in told for found in lists_in(part)]


def answer(asked, values):
    try:
        return asked(*values)
    except (BadRule, BadFolding, NoSuch, NoText) as refusal:
        return type(refusal).__name__


def copied(values):
    return [list(value) if isinstance(value, list) else value for value in values]


class WholeTest(unittest.TestCase):
    def assert_refused(self, refusal, asked, values):
        handed = copied(values)
        with self.assertRaises(ValueError) as taken:
            asked(*handed)
        self.assertIs(type(taken.exception), refusal, asked.__name__)
        self.assertEqual(handed, values)


class InterfaceTest(WholeTest):
    def test_arguments_stand_in_the_order_of_the_interface(self):
        for asked, names in ARGUMENTS:
            with self.subTest(asked=asked.__name__):
                self.assertEqual(list(inspect.signature(asked).parameters), names)


class OrderOfRefusalsTest(WholeTest):
    def test_bad_rule_ahead_of_all_else(self):
        for rule in BAD_RULES:
            for folding in [good_folding(rule), []] + WRONG_BESIDE_ANY:
                for asked, values in calls(HANDED_A_RULE, rule, folding):
                    self.assert_refused(BadRule, asked, values)

    def test_bad_folding_ahead_of_all_but_bad_rule(self):
        for rule, folding in BAD_FOLDINGS:
            for asked, values in calls(HANDED_A_FOLDING, rule, folding):
                self.assert_refused(BadFolding, asked, values)

    def test_no_such_where_rule_and_folding_are_right(self):
        for rule in RULES:
            self.assert_refused(NoSuch, folding_at, [rule, 800, -1])
            self.assert_refused(NoSuch, folding_at, [rule, 800, 2 ** (len(rule) - 1)])
            self.assert_refused(NoSuch, folding_at, [rule, 0, 0])
            self.assert_refused(NoSuch, number_of, [rule, sum(rule) - 1, good_folding(rule)])
            self.assert_refused(NoSuch, number_of, [rule, -1, good_folding(rule)])

    def test_nothing_else_is_refused(self):
        for rule in RULES:
            for folding in [good_folding(rule), [1] * (len(rule) - 1)]:
                for asked, values in calls(HANDED_A_RULE, rule, folding):
                    if asked not in (folding_at, number_of):
                        asked(*values)


class HandedInTest(WholeTest):
    def test_it_is_unchanged(self):
        for rule in RULES:
            for folding in [good_folding(rule), [1] * (len(rule) - 1), [2], [0] * 12]:
                for asked, values in calls(HANDED_A_RULE, rule, folding):
                    handed = copied(values)
                    answer(asked, handed)
                    self.assertEqual(handed, values, asked.__name__)

    def test_it_may_be_changed_later(self):
        rule = [30, 12, 25, 7]
        for folding in all_foldings(rule):
            for asked, values in calls(HANDED_A_RULE, rule, folding):
                told = answer(asked, values)
                expected = repr(told)
                for value in values:
                    if isinstance(value, list):
                        value[0] = 1 - value[0]
                        value.append(5)
                self.assertEqual(repr(told), expected, asked.__name__)

    def test_nothing_hangs_on_what_was_handed_in_before(self):
        rule, folding = [30, 12, 25, 7], [0, 1, 0]
        other_rule, other_folding = [7, 12, 7, 50], [1, 1, 0]
        ahead = [repr(answer(asked, values)) for asked, values in calls(HANDED_A_RULE, other_rule, other_folding)]
        changed = []
        for asked, values in calls(HANDED_A_RULE, rule, folding):
            answer(asked, values)
            for value in values:
                if isinstance(value, list):
                    value[:] = other_rule if value == rule else other_folding
            changed.append(repr(answer(asked, values)))
        self.assertEqual(changed, ahead)

    def test_a_list_mended_after_a_refusal_is_taken(self):
        rule, folding = [5, 0], [2]
        for asked, values in calls(HANDED_A_FOLDING, rule, folding):
            self.assert_refused(BadRule, asked, values)
            values[0][1] = 10
            self.assert_refused(BadFolding, asked, values)
        rule[1], folding[0] = 10, 1
        self.assertIs(fits(rule, folding, 10), True)
        self.assertEqual(number_of(rule, 10, folding), 0)
        self.assertEqual(shown(rule, folding), "5-10")


class ToldTest(WholeTest):
    def all_calls(self):
        for rule in RULES:
            yield from calls(HANDED_A_RULE, rule, good_folding(rule))
            yield read, [shown(rule, good_folding(rule))]

    def test_no_two_lists_told_by_one_call_are_one(self):
        for asked, values in self.all_calls():
            lists = lists_in(answer(asked, values))
            self.assertEqual(len({id(one) for one in lists}), len(lists), asked.__name__)

    def test_two_calls_tell_two_lists(self):
        for asked, values in self.all_calls():
            ones = lists_in(answer(asked, values))
            others = lists_in(answer(asked, values))
            self.assertEqual({id(one) for one in ones} & {id(other) for other in others}, set(), asked.__name__)

    def test_what_is_told_is_none_of_what_is_handed_in(self):
        for asked, values in self.all_calls():
            handed = {id(value) for value in values if isinstance(value, list)}
            told = {id(one) for one in lists_in(answer(asked, values))}
            self.assertEqual(handed & told, set(), asked.__name__)

    def test_one_list_may_be_changed_without_the_others(self):
        for asked, values in self.all_calls():
            told = answer(asked, values)
            expected = repr(told)
            # The outer list stands ahead of those within it and shows their changes, so it is left for the last.
            lists = lists_in(told)
            for place in reversed(range(len(lists))):
                ahead = [repr(one) for one in lists[1:place]]
                behind = [repr(one) for one in lists[place + 1:]]
                lists[place].append(99)
                self.assertEqual([repr(one) for one in lists[1:place]], ahead, asked.__name__)
                if place > 0:
                    self.assertEqual([repr(one) for one in lists[place + 1:]], behind, asked.__name__)
            self.assertEqual(repr(answer(asked, values)), expected, asked.__name__)


class OnePieceTest(WholeTest):
    def test_one_piece_with_the_empty_folding(self):
        for length in [1, 2, 30, 59, 60]:
            self.assertIs(fits([length], [], length), True)
            self.assertEqual(shortest_case([length]), (length, []))
            self.assertEqual(by_half([length]), [])
            self.assertEqual(reachable([length], length), [list(range(length + 1)), [0, length]])
            self.assertEqual(many_fits([length], length), 1)
            self.assertEqual(folding_at([length], length, 0), [])
            self.assertEqual(number_of([length], length, []), 0)
            self.assertEqual(read(shown([length], [])), ([length], []))


if __name__ == "__main__":
    unittest.main()
