"""Folded rules written as texts, and read from them."""

from foldrule.errors import BadRule, NoText
from foldrule.rules import LONGEST_PIECE, check_folding, check_rule

FIGURES = "0123456789"


def shown(rule, folding):
    check_folding(rule, folding)
    text = str(rule[0])
    for turn, length in zip(folding, rule[1:]):
        sign = "+" if turn == 0 else "-"
        text = text + sign + str(length)
    return text


def is_number(word):
    for sign in word:
        if sign not in FIGURES:
            return False
    return word != "" and word[0] != "0"


def read_length(word):
    # Python itself fails at reading a very long number, so the word's own length is looked at first.
    if len(word) > len(str(LONGEST_PIECE)) or not is_number(word):
        raise NoText("a length is written by figures without a nought ahead")
    return int(word)


def read(text):
    words = text.replace("-", "+").split("+")
    rule = [read_length(word) for word in words]
    folding = [0 if sign == "+" else 1 for sign in text if sign in ("+", "-")]
    try:
        check_rule(rule)
    except BadRule:
        raise NoText("the lengths written are no rule") from None
    return (rule, folding)
