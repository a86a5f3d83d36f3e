"""Layouts of runs on drives, the phases that lead from one to another, and the levels."""

from pourwright.bounds import check_drives, is_below
from pourwright.errors import NoPhase
from pourwright.items import is_whole


def are_sources(thing, layout, times):
    if not isinstance(thing, tuple) or len(thing) < 2:
        return False
    last = -1
    for drive in thing:
        # The target has no runs, and so is never a source that has as many as the times.
        if not is_below(drive, len(layout)) or drive <= last or layout[drive] < times:
            return False
        last = drive
    return True


def is_phase(thing, layout):
    if not isinstance(thing, tuple) or len(thing) != 3:
        return False
    if not is_below(thing[0], len(layout)) or layout[thing[0]] != 0:
        return False
    if not is_whole(thing[2]) or thing[2] < 1:
        return False
    return are_sources(thing[1], layout, thing[2])


def led(layout, phase):
    if not is_phase(phase, layout):
        raise NoPhase("this is no phase of the layout")
    told = list(layout)
    for drive in phase[1]:
        told[drive] -= phase[2]
    told[phase[0]] = phase[2]
    return tuple(told)


def next_level(layout):
    return tuple([layout[0] + more for more in layout[1:]] + [0])


def level(drives, number):
    check_drives(drives)
    told = tuple([1] + [0 for drive in range(drives - 1)])
    for count in range(number):
        told = next_level(told)
    return told


def level_for(drives, many):
    now = level(drives, 0)
    number = 0
    while sum(now) < many:
        now = next_level(now)
        number += 1
    return number


def phases_from(layout):
    told = []
    now = layout
    while sum(now) > 1:
        target = now.index(0)
        sources = tuple([drive for drive in range(len(now)) if drive != target])
        phase = (target, sources, min([now[drive] for drive in sources]))
        told.append(phase)
        now = led(now, phase)
    return told


def drives_in_order(drives, many):
    # For each run, in order, the drive on which it is laid.
    lacks = list(level(drives, level_for(drives, many)))
    told = []
    for run in range(many):
        # The first one that lacks the most is the one with the least number.
        drive = lacks.index(max(lacks))
        lacks[drive] -= 1
        told.append(drive)
    return told


def spread(drives, many):
    laid_on = drives_in_order(drives, many)
    laid = [laid_on.count(drive) for drive in range(drives)]
    wanted = level(drives, level_for(drives, many))
    return (tuple(laid), tuple([one - other for one, other in zip(wanted, laid)]))
