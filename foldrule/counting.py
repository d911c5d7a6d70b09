"""How many foldings of a rule fit in a case, and the numbers they have there."""

from foldrule.cases import first_reach, fits, further_reach
from foldrule.errors import NoSuch
from foldrule.rules import check_rule


def further_counts(counts, length, case):
    found = {}
    for reach, many in counts.items():
        for turn in (0, 1):
            further = further_reach(reach, turn, length)
            if sum(further) <= case:
                found[further] = found.get(further, 0) + many
    return found


def many_beyond(reach, lengths, case):
    # No further piece makes a span less, so what is too wide already is left out at once.
    if sum(reach) > case:
        return 0
    counts = {reach: 1}
    for length in lengths:
        counts = further_counts(counts, length, case)
    return sum(counts.values())


def many_going_on(rule, case, reach, hinge):
    onward = further_reach(reach, 0, rule[hinge + 1])
    return many_beyond(onward, rule[hinge + 2:], case)


def many_fits(rule, case):
    check_rule(rule)
    return many_beyond(first_reach(rule), rule[1:], case)


def folding_at(rule, case, number):
    if number >= many_fits(rule, case) or number < 0:
        raise NoSuch("no folding that fits in the case has this number")
    reach = first_reach(rule)
    left = number
    folding = []
    for hinge in range(len(rule) - 1):
        many = many_going_on(rule, case, reach, hinge)
        turn = 0 if left < many else 1
        if turn == 1:
            left = left - many
        folding.append(turn)
        reach = further_reach(reach, turn, rule[hinge + 1])
    return folding


def number_of(rule, case, folding):
    if not fits(rule, folding, case):
        raise NoSuch("the folding does not fit in the case")
    reach = first_reach(rule)
    number = 0
    for hinge, turn in enumerate(folding):
        # Those with the same turns up to here that go on where this one turns stand ahead of it.
        if turn == 1:
            number = number + many_going_on(rule, case, reach, hinge)
        reach = further_reach(reach, turn, rule[hinge + 1])
    return number
