"""Rules and foldings, and the places of a folded rule's joints."""

from foldrule.errors import BadFolding, BadRule

MOST_PIECES = 12
LONGEST_PIECE = 60


# The refusals' words leave out the numbers handed in:
# Python itself fails at writing a very long one.
def check_rule(rule):
    if len(rule) < 1 or len(rule) > MOST_PIECES:
        raise BadRule(f"a rule has 1 to {MOST_PIECES} pieces")
    for length in rule:
        if length < 1 or length > LONGEST_PIECE:
            raise BadRule(f"a piece's length is from 1 to {LONGEST_PIECE}")


def check_folding(rule, folding):
    check_rule(rule)
    if len(folding) != len(rule) - 1:
        raise BadFolding("a folding has a turn for each hinge, one fewer than the pieces")
    for turn in folding:
        if turn != 0 and turn != 1:
            raise BadFolding("a turn is 0 or 1")


def joints(rule, folding):
    check_folding(rule, folding)
    place = 0
    places = [place]
    way = 1
    # No hinge stands ahead of the first piece; a turn of 0 there keeps it upward.
    for turn, length in zip([0] + folding, rule):
        if turn == 1:
            way = -way
        place = place + way * length
        places.append(place)
    return places


def span(rule, folding):
    places = joints(rule, folding)
    return max(places) - min(places)
