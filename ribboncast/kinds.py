"""What every module asks of a thing before it reckons with it."""


def is_whole(thing):
    """Tell whether a thing is a whole number."""
    # True and False are numbers to Python, but none here.
    return isinstance(thing, int) and not isinstance(thing, bool)


def is_whole_within(thing, least, greatest):
    """Tell whether a thing is a whole number from least to greatest."""
    return is_whole(thing) and least <= thing <= greatest


def is_tuple_of(thing, many):
    """Tell whether a thing is a tuple of just so many things."""
    return isinstance(thing, tuple) and len(thing) == many
