"""What several test files share: rules, wrong rules and foldings, and answers found by going through all foldings."""

import itertools

# Ordinary rules of one to twelve pieces, and the edges: lengths 1 and 60, twelve pieces of one length.
RULES = [
    [9],
    [1],
    [60],
    [5, 10],
    [1, 60],
    [60, 1],
    [4, 4],
    [30, 12, 25],
    [5, 20, 3],
    [8, 8, 8, 8],
    [60, 31, 60, 31],
    [3, 1, 4, 1, 5],
    [60, 1, 59, 2, 58, 3],
    [2, 7, 1, 8, 2, 8, 1],
    [13, 7, 41, 5, 60, 22, 1, 37],
    [9, 10, 7, 10, 5, 9, 7, 10, 7],
    [10, 6, 10, 7, 10, 5, 10, 5, 8, 8],
    [60, 1, 30, 45, 2, 17, 60, 33, 59, 8, 24],
    [6, 10, 7, 9, 6, 8, 7, 9, 8, 9, 9, 6],
    [1, 60, 1, 60, 1, 60, 1, 60, 1, 60, 1, 60],
    [1] * 12,
    [60] * 12,
]

# Its spans are many and its foldings seldom alike, so each number asked of it takes a while.
LONG_RULE = [37, 60, 18, 53, 1, 44, 29, 7, 58, 12, 35, 49]

BAD_RULES = [
    [],
    [1] * 13,
    [60] * 13,
    [5] * 40,
    [0],
    [61],
    [-1],
    [-60],
    [0, 5, 5],
    [5, 0, 5],
    [5, 5, 0],
    [61, 5, 5],
    [5, 61, 5],
    [5, 5, 61],
    [-7, 5, 5],
    [5, -7, 5],
    [5, 5, -7],
    [5] * 11 + [0],
    [60] * 11 + [61],
    [10 ** 5000],
    [-(10 ** 5000)],
]

# Each beside a rule that is one.
BAD_FOLDINGS = [
    ([5], [0]),
    ([5], [1]),
    ([5], [2]),
    ([5, 6], []),
    ([5, 6], [0, 0]),
    ([5, 6], [2]),
    ([5, 6], [-1]),
    ([5, 6, 7], []),
    ([5, 6, 7], [1]),
    ([5, 6, 7], [0, 1, 0]),
    ([5, 6, 7], [2, 0]),
    ([5, 6, 7], [0, 2]),
    ([5, 6, 7], [-1, 1]),
    ([5, 6, 7], [1, -1]),
    ([5, 6, 7], [0, 10 ** 5000]),
    ([60] * 12, [0] * 10),
    ([60] * 12, [0] * 12),
    ([60] * 12, [0] * 10 + [2]),
    ([1] * 12, [1] * 10 + [-1]),
]

# For any rule that is none, foldings that would be refused by themselves too.
WRONG_BESIDE_ANY = [[2], [-1], [2] * 11, [0] * 60, [0, 3, 1]]


def good_folding(rule):
    return [0] * max(len(rule) - 1, 0)


def place_of(rule, folding, joint):
    # Piece k goes upward where the turns ahead of it are even in number.
    return sum(rule[k] * (-1) ** sum(folding[:k]) for k in range(joint))


def places_of(rule, folding):
    return [place_of(rule, folding, joint) for joint in range(len(rule) + 1)]


def width_of(rule, folding):
    places = places_of(rule, folding)
    return max(places) - min(places)


def all_foldings(rule):
    """All of them in their order: the lesser turn at the first hinge where two differ is first."""
    return [list(turns) for turns in itertools.product([0, 1], repeat=len(rule) - 1)]


def all_widths(rule):
    """Each folding, in their order, beside its span."""
    return [(folding, width_of(rule, folding)) for folding in all_foldings(rule)]


def cases_about(widths):
    """Cases in which none, the first few, about half, all but the widest, and all fit; and those of the bounds."""
    spans = sorted(width for folding, width in widths)
    least, middle, greatest = spans[0], spans[len(spans) // 2], spans[-1]
    about = [least - 1, least, least + 1, middle - 1, middle, greatest - 1, greatest, greatest + 1]
    return sorted(set([-1, 0, 800, 801, 830] + about))
