"""Items and rows: what they are, how they compare, and how far a row is from rising."""

MOST_ITEMS = 200
MOST_LETTERS = 8


def is_whole(thing):
    # True and False are ints to Python, but no whole numbers here.
    return isinstance(thing, int) and not isinstance(thing, bool)


def is_tag(thing):
    if not isinstance(thing, str) or len(thing) > MOST_LETTERS:
        return False
    return all(["a" <= letter <= "z" for letter in thing])


def is_item(thing):
    if not isinstance(thing, tuple) or len(thing) != 2:
        return False
    return is_whole(thing[0]) and is_tag(thing[1])


def is_row(thing):
    if not isinstance(thing, list) or len(thing) > MOST_ITEMS:
        return False
    return all([is_item(one) for one in thing])


def less(one, other):
    # Tuples compare part by part: by the key, and by the tag where the keys are alike.
    return one < other


def rises(row):
    for place in range(1, len(row)):
        if less(row[place], row[place - 1]):
            return False
    return True


def sorted_row(row):
    return sorted(row)


def greater_ahead(row, place):
    return len([one for one in row[:place] if less(row[place], one)])


def wrong_pairs(row):
    # Each wrong pair is counted once, at the lesser item, which stands behind.
    return sum([greater_ahead(row, place) for place in range(len(row))])


def far(row):
    return max([greater_ahead(row, place) for place in range(len(row))], default=0)
