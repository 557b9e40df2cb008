"""What kind a value is, and copies that share nothing with what they are made of."""


def is_integer(thing):
    """Whether a thing is an integer; True and False are none."""
    return isinstance(thing, int) and not isinstance(thing, bool)


def copied(thing):
    """A new list or tuple with copies of what it has; anything else as it is."""
    if isinstance(thing, list):
        return [copied(part) for part in thing]
    if isinstance(thing, tuple):
        return tuple([copied(part) for part in thing])
    return thing


def is_plain(thing, levels):
    """Whether any value is an integer, a string, or a tuple of plain things, with tuples at most so many levels deep.

    Only of plain things `==` tells all: True is equal to 1, and lists cannot be looked up.
    """
    if isinstance(thing, tuple):
        return levels > 0 and all([is_plain(part, levels - 1) for part in thing])
    return is_integer(thing) or isinstance(thing, str)
