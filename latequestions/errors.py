"""The errors of the package.

An error keeps a copy of what it is made with, so it still tells what was wrong
after the caller has changed the list that was passed.
"""

from latequestions.kinds import copied


class LateError(ValueError):
    """The base of the errors about what is written or passed."""


class BadForm(LateError):
    """The thing is no form."""

    def __init__(self, thing):
        self.thing = copied(thing)


class BadCondition(LateError):
    """The text is no condition from the index `at` on."""

    def __init__(self, at):
        self.at = copied(at)


class BadBook(LateError):
    """The thing is no book, or no part of one."""

    def __init__(self, thing):
        self.thing = copied(thing)


class BadRow(LateError):
    """The row of a program at the index `at` is wrong."""

    def __init__(self, at):
        self.at = copied(at)


class BadDeed(LateError):
    """The deed is no deed of others."""

    def __init__(self, deed):
        self.deed = copied(deed)


class BadPick(LateError):
    """The pick is no branch, or no step that may come there."""

    def __init__(self, pick):
        self.pick = copied(pick)


class BadGoal(LateError):
    """The thing is no goal."""

    def __init__(self, goal):
        self.goal = copied(goal)


class BadStart(LateError):
    """No first world has this start."""

    def __init__(self, start):
        self.start = copied(start)


class BadLabel(LateError):
    """The label is none there."""

    def __init__(self, label):
        self.label = copied(label)


class NoTurn(LateError):
    """The row cannot be turned."""

    def __init__(self, row):
        self.row = copied(row)


class TooMany(LateError):
    """There are more of these than are permitted."""

    def __init__(self, what):
        self.what = copied(what)


class OtherForm(LateError):
    """The things belong to different forms."""


class NotAlong(LateError):
    """A program does not go along with another one."""


class NoField(KeyError):
    """The form has no such field, or the field is missing."""

    def __init__(self, field):
        self.field = copied(field)


class NoFilter(KeyError):
    """The form has no such filter, or the filter is missing."""

    def __init__(self, name):
        self.name = copied(name)


class NoRow(LookupError):
    """The store has no row of this key."""

    def __init__(self, key):
        self.key = copied(key)


class Gone(LookupError):
    """A deed is refused, as the row of this key is not there."""

    def __init__(self, key):
        self.key = copied(key)


class NoName(LookupError):
    """There is no such name."""

    def __init__(self, name):
        self.name = copied(name)


class NoLook(LookupError):
    """The thing is no look of this kind."""

    def __init__(self, look):
        self.look = copied(look)


class NoWorld(LookupError):
    """The thing is no world of the table."""

    def __init__(self, world):
        self.world = copied(world)


class Held(RuntimeError):
    """Others may not write the row of this key: the store is quiet."""

    def __init__(self, key):
        self.key = copied(key)


class Over(RuntimeError):
    """The run is over."""


class Waiting(RuntimeError):
    """The run waits before the step `at`."""

    def __init__(self, at):
        self.at = copied(at)
