"""Where a run stands for one row, and what the steps of its program do there.

Values are integers without a meaning of their own: equal ones stand for equal values of a field, and `masks` has for
each field, by ascending field, a list in which the value is the index of its mask.
"""

from latequestions.books import Book
from latequestions.kinds import is_integer
from latequestions.sourcing import asks, asks_at_once

UNASKED = "unasked"
OUT = "out"
OTHER = "other"

VALUE_KINDS = ("set", "add", "update", "raise")


class Twofold:
    """An object of the row: the values that it holds, and those that it has read, by ascending field."""

    def __init__(self, held, seen):
        self.held = list(held)
        self.seen = list(seen)


class Side:
    """A side that is being changed. `row` is an empty list if the store does not have the row."""

    def __init__(self, program, book, told):
        row, holds, objects = told
        rows = [Twofold([held for held, seen in pairs], [seen for held, seen in pairs]) for pairs in objects]
        self.program = program
        self.going_by = book
        self.row = list(row)
        self.things = {name: rows[thing] if is_integer(thing) else thing for name, thing in holds}

    def told_with(self, numbering):
        """The triple (row, holds, objects), with the numbers that a Numbering gives."""
        row = numbering.numbers_of(self.row)
        places = {}
        for name in sorted(self.things):
            thing = self.things[name]
            if isinstance(thing, Twofold) and thing not in places:
                places[thing] = len(places)
        holds = [(name, told_thing(self.things[name], places)) for name in sorted(self.things)]
        objects = [numbering.pairs_of(thing) for thing in places]
        return row, tuple(holds), tuple(objects)

    def change_row(self, values):
        """The store has the row with these values, or not if there are none."""
        self.row = list(values)

    def write_value(self, field, value):
        """Gives a field of the row, told by its place, a value, if the store has the row."""
        if len(self.row) > 0:
            self.row[field] = value

    def is_taken(self, name, masks):
        """Whether the condition of a question takes the row now."""
        look = tuple([masks[field][value] for field, value in enumerate(self.row)])
        return look in self.program.conditions[name].looks

    def asked_thing(self, name, masks):
        """What an asking of a question gives of the row."""
        return Twofold(self.row, self.row) if self.is_taken(name, masks) else OUT

    def taken_thing(self, step, masks):
        """What the answer that a look step takes has of the row."""
        thing = self.things[step.source]
        if not asks(self.program, self.going_by, step, thing != UNASKED):
            return thing
        answer = self.asked_thing(step.source, masks)
        if self.going_by[step.kind] == "keep":
            self.things[step.source] = answer
        return answer

    def do_plain(self, step, choice, masks):
        """Does a step that is no pick, no `others` and no value step.

        Choice is 1 if the row's key is chosen or in the cut, 0 if not.
        """
        if step.kind == "build":
            at_once = asks_at_once(self.going_by, step)
            self.things[step.name] = self.asked_thing(step.name, masks) if at_once else UNASKED
        elif step.kind in Book.LOOKS:
            self.look_at(step, choice, masks)
        elif step.kind == "leave":
            del self.things[step.name]
        elif step.kind == "wipe":
            if self.is_taken(step.name, masks):
                self.row = []
        elif isinstance(self.things[step.name], Twofold):
            self.do_to(step, self.things[step.name])

    def look_at(self, step, choice, masks):
        answer = self.taken_thing(step, masks)
        if choice == 0:
            answer = OTHER if step.kind == "item" else OUT
        if step.name != "":
            self.things[step.name] = answer

    def do_to(self, step, thing):
        """Does a deed, but for set and add, to an object of the row. What is refused changes nothing."""
        if step.kind == "save":
            self.save_thing(step, thing)
        elif step.kind == "delete":
            self.row = []
        elif step.kind == "reread" or step.way == "fresh":
            self.reread_thing(thing)

    def save_thing(self, step, thing):
        if step.way == "":
            self.row = list(thing.held)
            thing.seen = list(thing.held)
        elif len(self.row) > 0:
            for field in saved_fields(self.program.form, step, thing):
                self.row[field] = thing.held[field]
                thing.seen[field] = thing.held[field]

    def reread_thing(self, thing):
        if len(self.row) > 0:
            thing.held = list(self.row)
            thing.seen = list(self.row)

    def replaced_value(self, step, masks):
        """The value of the row that a value step is about to replace here; None if nothing gets the new one.

        With `fresh` the object is reread first, so this is a part of the step.
        """
        field = self.program.form.fields.index(step.fields[0])
        if step.kind == "update" or step.kind == "raise":
            return self.row[field] if self.is_taken(step.name, masks) else None
        thing = self.things[step.name]
        if not isinstance(thing, Twofold):
            return None
        if step.way == "fresh":
            self.reread_thing(thing)
        return thing.held[field]

    def replace_value(self, step, value):
        """Puts the new value of a value step where `replaced_value` found the old one."""
        field = self.program.form.fields.index(step.fields[0])
        if step.kind == "update" or step.kind == "raise":
            self.row[field] = value
        else:
            thing = self.things[step.name]
            thing.held[field] = value


def told_thing(thing, places):
    """What a side tells of a name: a word, or the number of an object."""
    return places[thing] if isinstance(thing, Twofold) else thing


def saved_fields(form, step, thing):
    """The places of the fields that a save in part stores. A field is touched if it is held unlike it was read."""
    if step.way == "by":
        return [form.fields.index(field) for field in step.fields]
    return [field for field in range(len(form.fields)) if thing.held[field] != thing.seen[field]]


class Numbering:
    """Numbers for the values of each field, from 0, in the order in which they are met."""

    def __init__(self, width):
        self.met = [{} for field in range(width)]

    def number_of(self, field, value):
        known = self.met[field]
        if value not in known:
            known[value] = len(known)
        return known[value]

    def numbers_of(self, row):
        """The numbers of the values of a row."""
        return tuple([self.number_of(field, value) for field, value in enumerate(row)])

    def pairs_of(self, thing):
        """The pairs of numbers of an object: of the value that it holds, and then of the one that it has read."""
        pairs = []
        for field, (held, seen) in enumerate(zip(thing.held, thing.seen)):
            number = self.number_of(field, held)
            pairs.append((number, self.number_of(field, seen)))
        return tuple(pairs)

    def masks_of(self, masks):
        """The masks of the values that were met, by their numbers."""
        return tuple([tuple([masks[field][value] for value in known]) for field, known in enumerate(self.met)])
