"""What looks give from an answer: objects by ascending key."""

from latequestions.kinds import is_integer


def found(rows, key):
    """The object of a key, any value, or None; True is not the key 1."""
    for row in rows:
        if is_integer(key) and row.key == key:
            return row
    return None


def cut(rows, low, high):
    """The objects whose keys are at least low and less than high."""
    return [row for row in rows if low <= row.key < high]
