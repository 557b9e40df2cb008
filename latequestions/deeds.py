"""Deeds of others, as tuples."""

from latequestions.forms import Form
from latequestions.kinds import is_integer


def is_deed(thing):
    """Whether any value is a deed of some form: a put has one to three values, the field of a write is a string."""
    if not isinstance(thing, tuple) or len(thing) < 2 or not is_integer(thing[1]):
        return False
    if thing[0] == "put":
        return len(thing) == 3 and are_values(thing[2])
    if thing[0] == "write":
        return len(thing) == 4 and isinstance(thing[2], str) and is_integer(thing[3])
    return thing[0] == "remove" and len(thing) == 2


def are_values(thing):
    """Whether any value is a tuple of as many integers as some form has fields."""
    if not isinstance(thing, tuple) or not 1 <= len(thing) <= Form.MOST_FIELDS:
        return False
    return all([is_integer(value) for value in thing])


def is_deed_of(form, thing):
    """Whether any value is a deed of this form."""
    if not is_deed(thing):
        return False
    if thing[0] == "put":
        return len(thing[2]) == len(form)
    if thing[0] == "write":
        return thing[2] in form
    return True
