"""What kind a value is, and copies that share nothing with what they are made of."""


def is_integer(thing):
    """Whether a thing is an integer; True and False are none."""
    return isinstance(thing, int) and not isinstance(thing, bool)


def copied(thing):
    """A new list or tuple with copies of what it has; anything else as it is."""
    if isinstance(thing, list):
        return [copied(part) for part in thing]
    if isinstance(thing, tuple):
        return tuple([copied(part) for part in thing])
    return thing
