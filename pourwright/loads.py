"""Runs made by cutting a row: by the room, or where it falls."""

from pourwright.bounds import check_room
from pourwright.items import less, sorted_row


def loads(row, room):
    check_room(room)
    return [sorted_row(row[start:start + room]) for start in range(0, len(row), room)]


def natural(row):
    runs = []
    for place, item in enumerate(row):
        if place == 0 or less(item, row[place - 1]):
            runs.append([])
        runs[-1].append(item)
    return runs
