"""Making runs real: two programs are done side by side with real values, for the key 1."""

from latequestions.moments import Moment
from latequestions.pairing import pass_silent
from latequestions.sides import VALUE_KINDS, Side

KEY = 1
OTHER_KEY = 2


class RealMoment(Moment):
    """Two sides with real values. What comes in is a power of two, the same for all places; masks are found by value.

    Each label has its own power: so equal values are only those that are equal in the run, and sums, too.
    """

    def __init__(self, here, there, look):
        Moment.__init__(self, here, there, ())
        self.power = 1
        self.masks = [{self.power: mask} for mask in look]

    def new_value(self, place):
        """The power of this label, as a value without filters."""
        self.masks[place][self.power] = 0
        return self.power

    def new_sum(self, place, old):
        """The sum of a value and the power of this label, as a value without filters."""
        self.masks[place][old + self.power] = 0
        return old + self.power


class Making:
    """A run of a start and labels that is being done, and what must come from outside for it."""

    def __init__(self, programs, books, start):
        self.programs = tuple(programs)
        self.books = tuple(books)
        self.start = start
        self.moment = first_moment(self.programs, self.books, start)
        self.ats = (0, 0)
        self.picks = []
        self.choices = []
        self.cuts = []
        self.deeds = []
        self.begun_deeds = []
        self.given = []

    def take(self, label):
        """Does what a label says, with one step of each program, except for a deed of others: it stays there."""
        step, other_step = [program.steps[at] for program, at in zip(self.programs, self.ats)]
        self.moment.power = self.moment.power * 2
        self.moment.take_label(step, other_step, label)
        self.note_outside(step.kind, label)
        if step.kind != "others" or label == ("go",):
            branch = label[0] if step.kind == "pick" else 0
            self.ats = (step.then[branch], other_step.then[branch])

    def note_outside(self, kind, label):
        """Notes what must come from outside at a step of this kind for a label."""
        if kind == "pick":
            self.picks.append(label[0])
        elif kind == "item" or kind == "has":
            self.choices.append(KEY if label == (1,) else OTHER_KEY)
        elif kind == "part":
            self.cuts.append((KEY, KEY + 1) if label == (1,) else (OTHER_KEY, OTHER_KEY + 1))
        elif kind in VALUE_KINDS:
            self.given.append(self.moment.power)
        elif kind == "others" and label == ("go",):
            self.deeds.append(tuple(self.begun_deeds))
            self.begun_deeds = []
        elif kind == "others":
            self.begun_deeds.append(real_deed(self.programs[0].form, label, self.moment.power))

    def pass_silent_steps(self):
        """Does the silent steps of both programs up to their next marks."""
        at, other_at = self.ats
        behind = pass_silent(self.moment.here, at, self.moment.masks)
        self.ats = (behind, pass_silent(self.moment.there, other_at, self.moment.masks))

    def all_deeds(self):
        """The lists of deeds, also that of an `others` in the middle of which the labels end."""
        return self.deeds + [tuple(self.begun_deeds)] if len(self.begun_deeds) > 0 else list(self.deeds)

    def first_rows(self):
        """The rows with which the stores begin, as a dict."""
        if self.start == ():
            return {}
        return {KEY: {field: 1 for field in self.programs[0].form.fields}}

    def members_of(self, name):
        """The values of the run of which a filter holds."""
        form = self.programs[0].form
        field = form.field_of(name)
        number = 1 << form.filters_of(field).index(name)
        known = self.moment.masks[form.fields.index(field)]
        return [value for value in known if (known[value] & number) > 0]


def first_moment(programs, books, start):
    """The moment before the first steps: both stores have the row with the values 1, or not."""
    side = (tuple([1 for mask in start]), (), ())
    here, there = [Side(program, book, side) for program, book in zip(programs, books)]
    look = start if start != () else [0 for field in programs[0].form.fields]
    return RealMoment(here, there, look)


def real_deed(form, label, power):
    """The deed of others of a label, for the key 1, with this power as its values."""
    if label[0] == "put":
        return "put", KEY, tuple([power for field in form.fields])
    if label[0] == "write":
        return "write", KEY, label[1], power
    return "remove", KEY
