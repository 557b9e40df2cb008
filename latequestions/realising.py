"""Runs made real: a store of at most one row, filters, and what comes from outside."""

from latequestions.errors import NotAlong, TooMany
from latequestions.following import Following, must_be_tuple, told_at_start, told_behind_label
from latequestions.kinds import is_integer
from latequestions.making import Making
from latequestions.runs import Outside, perform

MOST_LABELS = 100


class Members:
    """A filter that holds of some values."""

    def __init__(self, values):
        self.known = {value: True for value in values}

    def __call__(self, value):
        return is_integer(value) and value in self.known

    def __contains__(self, x):
        return is_integer(x) and x in self.known

    def __len__(self):
        return len(self.known)


class Powers:
    """Values for value steps: powers of two."""

    def __init__(self, first=0, by=1):
        self.first = first
        self.by = by

    def __call__(self, n, key):
        return 1 << (self.first + self.by * n)


class Given:
    """Values for value steps, one for each step of a run, whatever the key; 0 for those behind it."""

    def __init__(self, given):
        self.given = tuple(given)

    def __call__(self, n, key):
        return self.given[n] if n < len(self.given) else 0


class Real:
    """What a run needs to be performed: rows, filters and what comes from outside; two programs and two books."""

    def __init__(self, rows, filters, outside, programs, books):
        self.rows = rows
        self.filters = filters
        self.outside = outside
        self.programs = programs
        self.books = books

    def played(self):
        """What `perform` returns for the first program under the first book, and for the second under the second."""
        return tuple([perform(program, self.rows, self.filters, book, self.outside)
                      for program, book in zip(self.programs, self.books)])


def realise(program, here, there, start, labels, *, against=None):
    """The run of a start and labels, any values, made real with the key 1."""
    other = program if against is None else against
    if not program.goes_along(other):
        raise NotAlong()
    following = Following(program, here, other, there)
    world = told_at_start(following.first_told(), start)
    must_be_tuple(labels)
    must_be_few(labels)
    making = Making((program, other), (here, there), start)
    for label in labels:
        world = told_behind_label(following.next_told(world), label)
        making.take(label)
    return real_of(making)


def must_be_few(labels):
    if len(labels) > MOST_LABELS:
        raise TooMany("labels")


def real_of(making):
    """What was made, as a Real."""
    names = making.programs[0].form.filters_of()
    filters = {name: Members(making.members_of(name)) for name in names}
    outside = Outside(making.picks, making.choices, making.cuts, making.all_deeds(), value=Given(making.given))
    return Real(making.first_rows(), filters, outside, making.programs, making.books)
