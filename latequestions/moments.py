"""Two sides that are changed together, with the masks of their values."""

from latequestions.sides import VALUE_KINDS, Numbering

CHOICE_KINDS = ("item", "has", "part")
SUM_KINDS = ("add", "raise")


class Moment:
    """Two sides that are being changed. A value is the index of its mask among those of its field."""

    def __init__(self, here, there, masks):
        self.here = here
        self.there = there
        self.masks = [list(known) for known in masks]

    def new_value(self, place):
        """A value, of the field at this place, that is unlike all values so far."""
        self.masks[place].append(0)
        return len(self.masks[place]) - 1

    def new_sum(self, place, old):
        """The value that comes out where a new one is added to an old one: it is unlike all values so far, too."""
        return self.new_value(place)

    def note_masks(self, news, label):
        """Gives new values, pairs (place of the field, value), the masks of a label."""
        for (place, value), mask in zip(news, label):
            self.masks[place][value] = mask

    def take_label(self, step, other_step, label):
        """Does what a label says at the two steps that come next; the steps are of one mark."""
        if step.kind in VALUE_KINDS:
            self.note_masks(self.replace_values(step, other_step), label)
        elif step.kind == "others":
            self.let_others(label)
        elif step.kind != "pick":
            self.do_both(step, other_step, label[0] if step.kind in CHOICE_KINDS else 1)

    def do_both(self, step, other_step, choice):
        """Does a step on each side that is no pick, no `others` and no value step."""
        self.here.do_plain(step, choice, self.masks)
        self.there.do_plain(other_step, choice, self.masks)

    def replace_values(self, step, other_step):
        """Does a value step on each side; returns the new values of the row, none to two, as pairs (place, value)."""
        old_here = self.here.replaced_value(step, self.masks)
        old_there = self.there.replaced_value(other_step, self.masks)
        news = []
        if old_here is not None:
            news.append(self.value_behind(self.here, step, old_here))
            self.here.replace_value(step, news[0][1])
        if old_there is not None:
            if old_here is None or not gives_the_same(step, old_here, other_step, old_there):
                news.append(self.value_behind(self.there, other_step, old_there))
            self.there.replace_value(other_step, news[-1][1])
        return news

    def value_behind(self, side, step, old):
        """The new value that a value step puts in the place of an old one, as a pair (place, value)."""
        place = side.place_of(step)
        value = self.new_sum(place, old) if step.kind in SUM_KINDS else self.new_value(place)
        return place, value

    def let_others(self, label):
        """Does in both stores what others do by a label."""
        if label[0] == "put":
            self.note_masks(self.put_rows(), label[1:])
        elif label[0] == "write":
            fields = self.here.program.form.fields
            self.note_masks(self.write_rows(fields.index(label[1])), label[2:])
        elif label[0] == "remove":
            self.remove_rows()

    def put_rows(self):
        """Puts the row with new values into both stores; returns them as pairs (place, value)."""
        fields = self.here.program.form.fields
        news = [(place, self.new_value(place)) for place in range(len(fields))]
        self.here.change_row([value for place, value in news])
        self.there.change_row([value for place, value in news])
        return news

    def write_rows(self, place):
        """Gives the field at a place a new value in each store that has the row; returns it in a list of one pair."""
        value = self.new_value(place)
        self.here.write_value(place, value)
        self.there.write_value(place, value)
        return [(place, value)]

    def remove_rows(self):
        """Removes the row from both stores."""
        self.here.change_row([])
        self.there.change_row([])

    def told_at(self, ats):
        """What this moment is as a world or a pair, behind the numbers of the next steps, a tuple."""
        numbering = Numbering(len(self.masks))
        here = self.here.told_with(numbering)
        there = self.there.told_with(numbering)
        return (*ats, here, there, numbering.masks_of(self.masks))

    def told_for_all(self, ats, news, labels):
        """Pairs (label, told), for each label what is told where the new values have the masks that it is made of.

        News are pairs (place, value), as many as a label has masks. The numbers are the same for all labels.
        """
        numbering = Numbering(len(self.masks))
        here = self.here.told_with(numbering)
        there = self.there.told_with(numbering)
        pairs = []
        for label in labels:
            self.note_masks(news, label)
            pairs.append((label, (*ats, here, there, numbering.masks_of(self.masks))))
        return pairs


def gives_the_same(step, old, other_step, other_old):
    """Whether two value steps that are done together put the same new value in the places of two old ones."""
    if step.fields != other_step.fields:
        return False
    is_sum = step.kind in SUM_KINDS
    return is_sum == (other_step.kind in SUM_KINDS) and (not is_sum or old == other_old)
