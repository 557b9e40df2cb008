"""The first worlds of a program under two books, and the followers of each world."""

from latequestions.errors import BadLabel, BadStart
from latequestions.kinds import is_plain
from latequestions.moments import CHOICE_KINDS, Moment
from latequestions.sides import VALUE_KINDS, Side

# A world or a pair has five levels of tuples, a label one: what is deeper is none.
MOST_LEVELS = 5


class Following:
    """The worlds of a program under one book beside `against`, a program that goes along with it, under another.

    What is told of a moment, a world here, ends with the two sides and the masks; the next steps stand before these.
    """

    def __init__(self, program, here, against, there):
        self.form = program.form
        self.programs = (program, against)
        self.books = (here, there)

    def first_told(self):
        """Pairs (start, world): the store without the row, and with the row of each look."""
        nothing = ((), (), ())
        pairs = [((), (0, nothing, nothing, tuple([() for field in self.form.fields])))]
        side = (tuple([0 for field in self.form.fields]), (), ())
        for look in self.form.possible:
            pairs.append((look, (0, side, side, tuple([(mask,) for mask in look]))))
        return pairs

    def next_told(self, world):
        """The followers of a world: pairs (label, world), by ascending label."""
        at, here, there, masks = world
        steps = self.programs[0].steps
        if at == len(steps):
            return []
        step = steps[at]
        if step.kind == "pick":
            return [((branch,), (then, here, there, masks)) for branch, then in enumerate(step.then)]
        if step.kind == "others":
            return [(("go",), (step.then[0], here, there, masks))] + self.deeds_behind(world)
        if step.kind in VALUE_KINDS:
            return self.values_behind(world)
        if step.kind in CHOICE_KINDS:
            return [((choice,), self.told_behind(world, choice)) for choice in (0, 1)]
        return [((), self.told_behind(world, 1))]

    def moment_of(self, told):
        """What is told, as a Moment."""
        here, there, masks = told[-3:]
        program, against = self.programs
        book, other_book = self.books
        return Moment(Side(program, book, here), Side(against, other_book, there), masks)

    def told_behind(self, world, choice):
        """The world behind a step that brings no values."""
        at = world[0]
        program, against = self.programs
        moment = self.moment_of(world)
        moment.do_both(program.steps[at], against.steps[at], choice)
        return moment.told_at(program.steps[at].then)

    def values_behind(self, world):
        """The followers at a value step."""
        at = world[0]
        program, against = self.programs
        moment = self.moment_of(world)
        news = moment.replace_values(program.steps[at], against.steps[at])
        return moment.told_for_all(program.steps[at].then, news, value_labels(self.form, news))

    def deeds_behind(self, told):
        """The followers at an `others` behind one deed, with the same next steps."""
        here, there, masks = told[-3:]
        ats = told[:-3]
        moment = self.moment_of(told)
        news = moment.put_rows()
        pairs = [(("put", *look), behind) for look, behind in moment.told_for_all(ats, news, self.form.possible)]
        if here[0] == () and there[0] == ():
            return pairs
        moment = self.moment_of(told)
        moment.remove_rows()
        pairs.append((("remove",), moment.told_at(ats)))
        for place, field in enumerate(self.form.fields):
            moment = self.moment_of(told)
            news = moment.write_rows(place)
            for label, behind in moment.told_for_all(ats, news, value_labels(self.form, news)):
                pairs.append((("write", field, *label), behind))
        return pairs


def value_labels(form, news):
    """All tuples of masks for new values, pairs (place of the field, value), ascending."""
    labels = [()]
    for place, value in news:
        labels = [(*label, mask) for label in labels for mask in range(form.mask_count(form.fields[place]))]
    return labels


def told_at_start(begun, start):
    """What the pairs (start, told) have for a start, any value."""
    for first, told in begun:
        if is_plain(start, MOST_LEVELS) and first == start:
            return told
    raise BadStart(start)


def told_behind_label(followers, label):
    """What the pairs (label, told) have for a label, any value."""
    for known, told in followers:
        if is_plain(label, MOST_LEVELS) and known == label:
            return told
    raise BadLabel(label)


def must_be_tuple(labels):
    if not isinstance(labels, tuple):
        raise BadLabel(labels)
