"""The bounds that several modules ask for, and what is refused beyond them."""

from pourwright.errors import NoRoom
from pourwright.items import is_whole

MOST_ROOM = 50


def is_below(thing, many):
    # Asked of things of whatever kind, so the kind goes ahead of the comparison.
    return is_whole(thing) and 0 <= thing < many


def check_room(thing):
    if not is_whole(thing) or not 1 <= thing <= MOST_ROOM:
        raise NoRoom(f"a room is a whole number from 1 to {MOST_ROOM}")
