"""Plans of neighbours: the table of what they move at least, and plans with the fewest passes."""

from pourwright.bounds import check_width
from pourwright.items import is_whole


def one_stretch_further(reached, behind, known):
    # What was reached stays, as a parting may have fewer stretches than the width.
    further = dict(reached)
    for place in reached:
        for end in range(place + 1, behind + 1):
            if (place, end) in known:
                stretch = known[(place, end)]
                sum_there = reached[place][0] + stretch[0]
                if end not in further or sum_there < further[end][0]:
                    further[end] = (sum_there, reached[place][1] + (stretch[1],))
    return further


def least_parting(first, behind, width, known):
    # Of the stretch itself nothing is known yet, so each parting that is found has two stretches or more.
    reached = {first: (0, ())}
    for count in range(width):
        reached = one_stretch_further(reached, behind, known)
    return reached[behind]


def least_of_stretches(lengths, width):
    # For each stretch (what is moved at least, a plan that moves just that). A stretch is parted into
    # shorter ones, so these are known when its turn comes.
    known = {}
    for first in range(len(lengths)):
        known[(first, first + 1)] = (0, first)
    for size in range(2, len(lengths) + 1):
        for first in range(len(lengths) - size + 1):
            behind = first + size
            parting = least_parting(first, behind, width, known)
            known[(first, behind)] = (sum(lengths[first:behind]) + parting[0], parting[1])
    return known


def table(lengths, width):
    check_width(width)
    told = {}
    for stretch, least in least_of_stretches(lengths, width).items():
        told[stretch] = least[0]
    return told


def neighbour_plan(lengths, width):
    check_width(width)
    return least_of_stretches(lengths, width)[(0, len(lengths))][1]


def is_stretch(thing):
    return isinstance(thing, tuple) and len(thing) == 2 and is_whole(thing[0]) and is_whole(thing[1])


def is_table(thing, lengths, width):
    right = table(lengths, width)
    if not isinstance(thing, dict) or len(thing) != len(right):
        return False
    for key, number in thing.items():
        # 1 and True are the same key, and the same number, to Python; so both are looked at by their kind.
        if not is_stretch(key) or not is_whole(number) or right.get(key) != number:
            return False
    return True


def fewest_passes(many, width):
    check_width(width)
    told = 0
    reach = 1
    while reach < many:
        reach = reach * width
        told += 1
    return told


def one_pass(plans, width):
    parts = [plans[start:start + width] for start in range(0, len(plans), width)]
    # A plan that is left alone at the end waits for a later pass: a tuple of one is no plan.
    return [tuple(part) if len(part) > 1 else part[0] for part in parts]


def level_plan(many, width):
    check_width(width)
    plans = list(range(many))
    while len(plans) > 1:
        plans = one_pass(plans, width)
    return plans[0]
