"""The first worlds of a program under two books, and the followers of each world."""

from latequestions.sides import VALUE_KINDS, Numbering, Side

CHOICE_KINDS = ("item", "has", "part")


class Moment:
    """A world that is being changed: its two sides, and the masks of its values and of new ones."""

    def __init__(self, here, there, masks):
        self.here = here
        self.there = there
        self.masks = [list(known) for known in masks]

    def new_value(self, field):
        """A value of a field, given by its place, that is unlike all values so far."""
        self.masks[field].append(0)
        return len(self.masks[field]) - 1

    def replace_values(self, step, other_step, field):
        """Does a value step, which may have another way there; returns the new values of the row, none to two."""
        old_here = self.here.replaced_value(step, self.masks)
        old_there = self.there.replaced_value(other_step, self.masks)
        news = []
        if old_here is not None:
            news.append(self.new_value(field))
            self.here.replace_value(step, news[0])
        if old_there is not None:
            is_sum = step.kind == "add" or step.kind == "raise"
            if old_here is None or (is_sum and old_here != old_there):
                news.append(self.new_value(field))
            self.there.replace_value(other_step, news[-1])
        return news

    def told_at(self, at):
        """The world with `at` as its next step."""
        numbering = Numbering(len(self.masks))
        here = self.here.told_with(numbering)
        there = self.there.told_with(numbering)
        return at, here, there, numbering.masks_of(self.masks)

    def told_for_all(self, at, news, labels):
        """Pairs (label, world), for each label the world in which the new values have its masks.

        News are pairs (place of the field, value), as many as a label has masks.
        """
        numbering = Numbering(len(self.masks))
        here = self.here.told_with(numbering)
        there = self.there.told_with(numbering)
        pairs = []
        for label in labels:
            for (field, value), mask in zip(news, label):
                self.masks[field][value] = mask
            pairs.append((label, (at, here, there, numbering.masks_of(self.masks))))
        return pairs


class Following:
    """The worlds of a program under one book beside `against`, a program that goes along with it, under another."""

    def __init__(self, program, here, against, there):
        self.form = program.form
        self.programs = (program, against)
        self.books = (here, there)

    def first_worlds(self):
        """Pairs (start, world): the store without the row, and with the row of each look."""
        nothing = ((), (), ())
        pairs = [((), (0, nothing, nothing, tuple([() for field in self.form.fields])))]
        side = (tuple([0 for field in self.form.fields]), (), ())
        for look in self.form.possible:
            pairs.append((look, (0, side, side, tuple([(mask,) for mask in look]))))
        return pairs

    def next_worlds(self, world):
        """The followers of a world: pairs (label, world), by ascending label."""
        at, here, there, masks = world
        steps = self.programs[0].steps
        if at == len(steps):
            return []
        step = steps[at]
        if step.kind == "pick":
            return [((branch,), (then, here, there, masks)) for branch, then in enumerate(step.then)]
        if step.kind == "others":
            return self.behind_others(world)
        if step.kind in VALUE_KINDS:
            return self.behind_values(world)
        if step.kind in CHOICE_KINDS:
            return [((choice,), self.behind_plain(world, choice)) for choice in (0, 1)]
        return [((), self.behind_plain(world, 1))]

    def moment_of(self, world):
        """The world as a Moment."""
        at, here, there, masks = world
        program, against = self.programs
        book, other_book = self.books
        return Moment(Side(program, book, here), Side(against, other_book, there), masks)

    def behind_plain(self, world, choice):
        """The world behind a step that brings no values."""
        at = world[0]
        program, against = self.programs
        moment = self.moment_of(world)
        moment.here.do_plain(program.steps[at], choice, moment.masks)
        moment.there.do_plain(against.steps[at], choice, moment.masks)
        return moment.told_at(program.steps[at].then[0])

    def behind_values(self, world):
        at = world[0]
        program, against = self.programs
        step = program.steps[at]
        field = self.form.fields.index(step.fields[0])
        moment = self.moment_of(world)
        news = moment.replace_values(step, against.steps[at], field)
        labels = [()]
        for value in news:
            labels = [(*label, mask) for label in labels for mask in range(self.form.mask_count(step.fields[0]))]
        return moment.told_for_all(step.then[0], [(field, value) for value in news], labels)

    def behind_others(self, world):
        """The followers at an `others`: the run goes on, or others do one more deed."""
        at, here, there, masks = world
        then = self.programs[0].steps[at].then[0]
        pairs = [(("go",), (then, here, there, masks))]
        pairs.extend([(("put", *look), behind) for look, behind in self.behind_put(world)])
        if here[0] == () and there[0] == ():
            return pairs
        moment = self.moment_of(world)
        moment.here.change_row([])
        moment.there.change_row([])
        pairs.append((("remove",), moment.told_at(at)))
        for place, field in enumerate(self.form.fields):
            for (mask,), behind in self.behind_write(world, place):
                pairs.append((("write", field, mask), behind))
        return pairs

    def behind_put(self, world):
        """Pairs of a look and the world in which both stores have the row with new values of this look."""
        moment = self.moment_of(world)
        news = [(place, moment.new_value(place)) for place in range(len(self.form.fields))]
        moment.here.change_row([value for place, value in news])
        moment.there.change_row([value for place, value in news])
        return moment.told_for_all(world[0], news, self.form.possible)

    def behind_write(self, world, place):
        """Pairs of the mask of a new value, in a tuple, and the world in which each store with the row has got it."""
        moment = self.moment_of(world)
        value = moment.new_value(place)
        moment.here.write_value(place, value)
        moment.there.write_value(place, value)
        labels = [(mask,) for mask in range(self.form.mask_count(self.form.fields[place]))]
        return moment.told_for_all(world[0], [(place, value)], labels)
