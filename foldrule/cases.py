"""Cases, and how a rule is folded to fit in them."""

from foldrule.rules import check_rule, span


def fits(rule, folding, case):
    return span(rule, folding) <= case


def places_behind(places, length, case):
    upward = [place + length for place in places]
    downward = [place - length for place in places]
    return [place for place in sorted(set(upward + downward)) if place >= 0 and place <= case]


def reachable(rule, case):
    check_rule(rule)
    places = list(range(case + 1))
    lists = [places]
    for length in rule:
        places = places_behind(places, length, case)
        lists.append(places)
    return lists


# A reach tells how far a folded rule lies behind its end and how far ahead of it, along the way of its last piece.
# The two together are its span, and what a further piece does to the span hangs on them alone:
# foldings with the same reach need not be told apart when the pieces behind them are folded.
def first_reach(rule):
    return (rule[0], 0)


def further_reach(reach, turn, length):
    if turn == 0:
        return (reach[0] + length, max(reach[1] - length, 0))
    return (reach[1] + length, max(reach[0] - length, 0))


# The dicts here go from a reach to the first folding that has it, and stand in the order of these foldings:
# so the one that comes first to a further reach is the first that has it.
def further_firsts(firsts, length, case):
    found = {}
    for reach, folding in firsts.items():
        for turn in (0, 1):
            further = further_reach(reach, turn, length)
            if sum(further) <= case and further not in found:
                found[further] = folding + [turn]
    return found


def shortest_case(rule):
    check_rule(rule)
    # Some folding fits in twice the longest piece, and no further piece makes a span less.
    enough = 2 * max(rule)
    firsts = {first_reach(rule): []}
    for length in rule[1:]:
        firsts = further_firsts(firsts, length, enough)
    best = min(firsts, key=sum)
    return (sum(best), firsts[best])


def by_half(rule):
    check_rule(rule)
    place = rule[0]
    way = 1
    folding = []
    for length in rule[1:]:
        next_way = 1 if place <= 0 else -1
        folding.append(0 if next_way == way else 1)
        way = next_way
        place = place + way * length
    return folding
