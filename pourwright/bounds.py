"""The bounds that several modules ask for, and what is refused beyond them."""

from pourwright.errors import NoDrives, NoRoom, NoWidth
from pourwright.items import is_whole

MOST_ROOM = 50
LEAST_WIDTH = 2
MOST_WIDTH = 8
LEAST_DRIVES = 3
MOST_DRIVES = 6


def is_below(thing, many):
    # Asked of things of whatever kind, so the kind goes ahead of the comparison.
    return is_whole(thing) and 0 <= thing < many


def check_room(thing):
    if not is_whole(thing) or not 1 <= thing <= MOST_ROOM:
        raise NoRoom(f"a room is a whole number from 1 to {MOST_ROOM}")


def check_width(thing):
    if not is_whole(thing) or not LEAST_WIDTH <= thing <= MOST_WIDTH:
        raise NoWidth(f"a width is a whole number from {LEAST_WIDTH} to {MOST_WIDTH}")


def check_drives(thing):
    if not is_whole(thing) or not LEAST_DRIVES <= thing <= MOST_DRIVES:
        raise NoDrives(f"a number of drives is a whole number from {LEAST_DRIVES} to {MOST_DRIVES}")
