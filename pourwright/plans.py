"""Plans of pours: which things are plans, what they move, and what comes of them."""

from pourwright.bounds import check_width, is_below
from pourwright.pours import check_rising, pour


def is_plan(thing, many, width):
    check_width(width)
    seen = {}
    # A stack in the place of a recursion, as a thing may be deep. A number that stands there twice
    # ends the walk at once, so it stays short even where great parts of a thing are the same.
    left = [thing]
    while left:
        part = left.pop()
        if isinstance(part, tuple):
            if not 2 <= len(part) <= width:
                return False
            left.extend(part)
        elif is_below(part, many) and part not in seen:
            seen[part] = True
        else:
            return False
    return len(seen) == many


def order(plan):
    if not isinstance(plan, tuple):
        return [plan]
    told = []
    for part in plan:
        told.extend(order(part))
    return told


def moved(plan, lengths):
    if not isinstance(plan, tuple):
        return 0
    here = sum([lengths[number] for number in order(plan)])
    return here + sum([moved(part, lengths) for part in plan])


def passes(plan):
    if not isinstance(plan, tuple):
        return 0
    return 1 + max([passes(part) for part in plan])


def done(plan, runs):
    check_rising(runs)
    return row_of(plan, runs)


def row_of(plan, runs):
    if not isinstance(plan, tuple):
        return list(runs[plan])
    return pour([row_of(part, runs) for part in plan])[0]
