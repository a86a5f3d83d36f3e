"""A row sorted in a room, on drives."""

from pourwright.bounds import check_drives, check_room
from pourwright.choosing import chosen
from pourwright.house import House
from pourwright.layouts import drives_in_order, level, level_for, phases_from, spread


def lay_runs(house, drives, runs):
    lacks = spread(drives, len(runs))[1]
    for drive, many in enumerate(lacks):
        for count in range(many):
            house.lay(drive, [])
    for drive, run in zip(drives_in_order(drives, len(runs)), runs):
        house.lay(drive, run)


def do_phase(house, phase):
    for count in range(phase[2]):
        house.pour(phase[1], phase[0])


def only_run(house):
    return house.runs(house.lying().index(1))[0]


def sort_on(row, room, drives):
    check_room(room)
    check_drives(drives)
    runs = chosen(row, room)
    house = House(drives)
    # Of no runs a single empty one is laid, by level 0, which is then the row.
    lay_runs(house, drives, runs)
    phases = phases_from(level(drives, level_for(drives, len(runs))))
    for phase in phases:
        do_phase(house, phase)
    return (only_run(house), len(runs), house.moved_items(), len(phases))
