"""Least goings: pours that take the shortest things each time, and so move least."""

from pourwright.bounds import check_width
from pourwright.items import is_whole


def first_size(many, width):
    # Just so many that all later pours can be as wide as the width, and leave one thing.
    return 2 + (many - 2) % (width - 1)


def shortest(there, size):
    # Of alike lengths the least numbers, told in rising order.
    by_length = sorted(list(there), key=lambda number: (there[number], number))
    return tuple(sorted(by_length[:size]))


def pour_things(there, taken, number):
    length = 0
    for one in taken:
        length += there.pop(one)
    there[number] = length


def going(lengths, width):
    check_width(width)
    there = dict(enumerate(lengths))
    size = first_size(len(lengths), width)
    told = []
    while len(there) > 1:
        taken = shortest(there, size)
        pour_things(there, taken, len(lengths) + len(told))
        told.append(taken)
        size = width
    return told


def is_going(thing, lengths, width):
    check_width(width)
    if not isinstance(thing, list):
        return False
    there = dict(enumerate(lengths))
    size = first_size(len(lengths), width)
    for at, taken in enumerate(thing):
        if not are_unlike_things(taken, there, size) or leaves_shorter(taken, there):
            return False
        pour_things(there, taken, len(lengths) + at)
        size = width
    return len(there) == 1


def are_unlike_things(thing, there, size):
    if not isinstance(thing, tuple) or len(thing) != size:
        return False
    if not all([is_whole(number) and number in there for number in thing]):
        return False
    return len(set(thing)) == size


def leaves_shorter(taken, there):
    longest = max([there[number] for number in taken])
    return any([there[number] < longest for number in there if number not in taken])


def least_moved(lengths, width):
    pours = going(lengths, width)
    known = list(lengths)
    for taken in pours:
        known.append(sum([known[number] for number in taken]))
    return sum(known[len(lengths):])


def least_plan(lengths, width):
    pours = going(lengths, width)
    known = list(range(len(lengths)))
    for taken in pours:
        known.append(tuple([known[number] for number in taken]))
    return known[-1]
