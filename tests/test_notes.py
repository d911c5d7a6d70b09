import itertools
import re
import unittest

from foldrule.errors import NoText
from foldrule.notes import read, shown
from tests.helpers import LONG_RULE, RULES, all_foldings

# Text, rule, folding: all worked out by hand.
WRITTEN = [
    ("1", [1], []),
    ("9", [9], []),
    ("10", [10], []),
    ("60", [60], []),
    ("30+12-25", [30, 12, 25], [0, 1]),
    ("5+10", [5, 10], [0]),
    ("5-10", [5, 10], [1]),
    ("1-60+1", [1, 60, 1], [1, 0]),
    ("20-10-50+40", [20, 10, 50, 40], [1, 1, 0]),
    ("1+1+1+1+1+1+1+1+1+1+1+1", [1] * 12, [0] * 11),
    ("60-60-60-60-60-60-60-60-60-60-60-60", [60] * 12, [1] * 11),
]

NO_TEXTS = [
    "",
    # A sign at the beginning or the end, two side by side, signs alone.
    "+", "-", "+-", "--", "+5", "-5", "5+", "5-", "+5+3", "-5+3", "5+3+", "5+3-", "5--3", "5++3", "5+-3", "5-+3",
    "+" * 100, "-" * 100,
    # A nought ahead, or nought.
    "0", "00", "01", "007", "5+03", "5-00", "05+3", "0+5", "5+0", "5+0+3", "060", "5-060", "000000005",
    # Lengths that are none.
    "61", "99", "100", "61+5", "5+61", "5-61-5", "600", "1000", "5+100", "5" * 100, "1" * 100, "1" * 101,
    "5+" + "1" * 98, "9" * 5000,
    # Thirteen pieces and more.
    "+".join(["1"] * 13), "-".join(["60"] * 13), "+".join(["5"] * 50), "+".join(["5"] * 70),
    # Blanks, tabs and line ends.
    " ", "\t", "\n", "5 ", " 5", "5\n", "\n5", "5\t", "\t5", "5+ 3", "5 +3", "5 + 3", "5- 3", "5\n+3", "5+\n3", "5\t-3",
    "1 0", "1\n0", "5 3", "5+3 ", " 5+3", "5+3\n", "5+3\n\n", "5+3\t", "5\n3", " " * 100,
    # Other signs.
    "_", ".", "*", "a", "1_0", "5_", "_5", "5.0", "5.", ".5", "5*3", "5a", "a5", "0x5", "0b1", "5e1", "1e1", "5,3",
    "5/3", "5=3", "(5)", "5+(3)", "'5'", "\"5\"", "5;3", "5~3", "~5", "5+a", "a+5", "5+3_0", "five", "[5]",
    "[5, 3]", "5:3",
]

LENGTH = "(?:[1-9]|[1-5][0-9]|60)"
ALL_SIGNS = ["\t", "\n"] + [chr(code) for code in range(ord(" "), ord("~") + 1) if chr(code) != "%"]


def is_written(text):
    return re.fullmatch(f"{LENGTH}(?:[+-]{LENGTH}){{0,11}}", text) is not None


class NotesTest(unittest.TestCase):
    def assert_no_text(self, text):
        with self.assertRaises(ValueError) as taken:
            read(text)
        self.assertIs(type(taken.exception), NoText)

    def assert_read_or_refused(self, text):
        if is_written(text):
            lengths = [int(figures) for figures in re.split("[+-]", text)]
            self.assertEqual(read(text), (lengths, ["+-".index(sign) for sign in re.findall("[+-]", text)]))
            self.assertEqual(shown(*read(text)), text)
        else:
            self.assert_no_text(text)


class ShownTest(NotesTest):
    def test_worked_by_hand(self):
        for text, rule, folding in WRITTEN:
            with self.subTest(text=text):
                self.assertEqual(shown(rule, folding), text)

    def test_every_length(self):
        for length in range(1, 61):
            self.assertEqual(shown([length], []), str(length))
            self.assertEqual(shown([1, length], [1]), f"1-{length}")

    def test_kinds_and_names_of_arguments(self):
        self.assertIs(type(shown(rule=[5, 10], folding=[1])), str)
        self.assertEqual(shown(rule=[5, 10], folding=[1]), "5-10")


class ReadTest(NotesTest):
    def test_worked_by_hand(self):
        for text, rule, folding in WRITTEN:
            with self.subTest(text=text):
                self.assertEqual(read(text), (rule, folding))

    def test_what_is_written_is_read_to_the_same(self):
        for rule in RULES + [LONG_RULE]:
            for folding in all_foldings(rule):
                self.assertEqual(read(shown(rule, folding)), (rule, folding))

    def test_no_two_folded_rules_are_written_alike(self):
        folded = [(rule, folding) for rule in RULES + [LONG_RULE] for folding in all_foldings(rule)]
        self.assertEqual(len({shown(rule, folding) for rule, folding in folded}), len(folded))

    def test_kinds_and_names_of_arguments(self):
        for text, rule, folding in WRITTEN:
            told = read(text=text)
            self.assertIs(type(told), tuple)
            self.assertEqual([type(part) for part in told], [list, list])
            self.assertEqual({type(number) for part in told for number in part}, {int})


class NoTextTest(NotesTest):
    def test_other_texts(self):
        for text in NO_TEXTS:
            with self.subTest(text=text[:40]):
                self.assert_no_text(text)

    def test_every_number_from_nought_to_a_thousand(self):
        for number in range(1001):
            for text in [f"{number}", f"0{number}", f"7-{number}", f"{number}+7"]:
                with self.subTest(text=text):
                    self.assert_read_or_refused(text)

    def test_every_short_text_of_some_signs(self):
        for signs in range(6):
            for text in itertools.product("016+- ", repeat=signs):
                self.assert_read_or_refused("".join(text))

    def test_every_text_of_two_signs(self):
        for one in ALL_SIGNS:
            for other in ALL_SIGNS:
                self.assert_read_or_refused(one + other)

    def test_every_sign_put_in_anywhere(self):
        for text in ["5", "30+12-25", "-".join(["60"] * 12), "+".join(["1"] * 11)]:
            for sign in ALL_SIGNS:
                for place in range(len(text) + 1):
                    self.assert_read_or_refused(text[:place] + sign + text[place:])

    def test_every_number_of_pieces(self):
        for pieces in range(1, 51):
            for sign in "+-":
                self.assert_read_or_refused(sign.join(["7"] * pieces))
                self.assert_read_or_refused(sign.join(["60"] * pieces))


if __name__ == "__main__":
    unittest.main()
