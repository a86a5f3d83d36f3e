"""Runs poured together, the trace of it, and what a trace leads to."""

from pourwright.bounds import is_below
from pourwright.contests import Contest
from pourwright.errors import NoTrace, NotRising
from pourwright.items import rises


def check_rising(runs):
    for at, run in enumerate(runs):
        if not rises(run):
            raise NotRising(at)


def head_of(run, taken):
    return run[taken] if taken < len(run) else None


def pour(runs):
    check_rising(runs)
    taken = [0 for run in runs]
    contest = Contest([head_of(run, 0) for run in runs])
    row = []
    trace = []
    number = contest.first()
    while number is not None:
        row.append(contest.head(number))
        trace.append(number)
        taken[number] += 1
        contest.put(number, head_of(runs[number], taken[number]))
        number = contest.first()
    return (row, trace)


def wrong_word(thing, runs, taken):
    if not is_below(thing, len(runs)):
        return "form"
    if taken[thing] == len(runs[thing]):
        return "empty"
    return None


def first_wrong(runs, trace):
    # As long as nothing is wrong, as much is taken from each run as in the pour itself.
    right = pour(runs)[1]
    taken = [0 for run in runs]
    for at, thing in enumerate(trace):
        word = wrong_word(thing, runs, taken)
        if word is None and thing != right[at]:
            word = "order"
        if word is not None:
            return (word, at)
        taken[thing] += 1
    if len(trace) < len(right):
        return ("fewer", len(trace))
    return None


def together(runs, trace):
    taken = [0 for run in runs]
    row = []
    for at, thing in enumerate(trace):
        word = wrong_word(thing, runs, taken)
        if word is not None:
            raise NoTrace(word, at)
        row.append(runs[thing][taken[thing]])
        taken[thing] += 1
    if len(row) < sum([len(run) for run in runs]):
        raise NoTrace("fewer", len(trace))
    return row


def apart(row, trace, many):
    for at, thing in enumerate(trace):
        if not is_below(thing, many):
            raise NoTrace("form", at)
    if len(trace) != len(row):
        raise NoTrace("fewer" if len(trace) < len(row) else "more", len(trace))
    runs = [[] for number in range(many)]
    for item, number in zip(row, trace):
        runs[number].append(item)
    return runs
