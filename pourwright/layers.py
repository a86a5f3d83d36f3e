"""The fewest phases from a layout to a single run, and the layers of layouts that are the paper for it."""

from pourwright.items import is_whole
from pourwright.layouts import led


def source_choices(drives):
    # The drives rise, and so does each choice of them.
    told = [()]
    for drive in drives:
        told = told + [sources + (drive,) for sources in told]
    return [sources for sources in told if len(sources) > 1]


def phases_of(layout):
    bare = [drive for drive in range(len(layout)) if layout[drive] == 0]
    others = [drive for drive in range(len(layout)) if layout[drive] > 0]
    told = []
    for sources in source_choices(others):
        least = min([layout[drive] for drive in sources])
        for target in bare:
            told.extend([(target, sources, times) for times in range(1, least + 1)])
    return told


def singles(layer):
    return [layout for layout in layer if sum(layout) == 1]


def next_layer(layer, seen):
    told = {}
    for layout in layer:
        for phase in phases_of(layout):
            told[led(layout, phase)] = True
    return sorted([layout for layout in told if layout not in seen])


def layers(layout):
    told = []
    seen = {}
    layer = [layout]
    while layer:
        told.append(layer)
        if singles(layer):
            break
        for one in layer:
            seen[one] = True
        layer = next_layer(layer, seen)
    return told


def step_to(layer, wanted):
    # One is always found: each layout of a layer comes from the layer ahead.
    for layout in layer:
        for phase in phases_of(layout):
            if led(layout, phase) == wanted:
                return (layout, phase)
    return None


def fewest_phases(layout):
    found = layers(layout)
    ends = singles(found[-1])
    if not ends:
        return None
    told = []
    now = ends[0]
    for layer in reversed(found[:-1]):
        step = step_to(layer, now)
        now = step[0]
        told.insert(0, step[1])
    return told


def are_layers(thing, layout):
    if thing != layers(layout):
        return False
    # What is alike has the same lists and tuples, but 1 and True are alike to Python, too.
    for layer in thing:
        for one in layer:
            if not all([is_whole(number) for number in one]):
                return False
    return True
