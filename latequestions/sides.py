"""Where a run stands for one row, and what the steps of its program do there.

Values are integers without a meaning of their own: equal ones stand for equal values of a field, and `masks` has for
each field, by ascending field, a list or a dict in which the mask of a value stands at this value.
"""

from latequestions.books import Book
from latequestions.kinds import is_integer
from latequestions.sourcing import asks, asks_at_once

UNASKED = "unasked"
OUT = "out"
OTHER = "other"

VALUE_KINDS = ("set", "add", "update", "raise")


class Twofold:
    """An object of the row: the values that it holds, and those that it has read, by ascending field."""

    def __init__(self, held, seen):
        self.held = list(held)
        self.seen = list(seen)


class Side:
    """A side that is being changed. `row` is an empty list if the store does not have the row."""

    def __init__(self, program, book, told):
        row, holds, objects = told
        rows = [Twofold([held for held, seen in pairs], [seen for held, seen in pairs]) for pairs in objects]
        self.program = program
        self.going_by = book
        self.row = list(row)
        self.things = {name: rows[thing] if is_integer(thing) else thing for name, thing in holds}

    def told_with(self, numbering):
        """The triple (row, holds, objects), with the numbers that a Numbering gives."""
        return told_side(self.row, self.things, numbering)

    def held_things(self):
        """The objects of the row that names hold or keep."""
        return [thing for thing in self.things.values() if isinstance(thing, Twofold)]

    def change_row(self, values):
        """The store has the row with these values, or not if there are none."""
        self.row = list(values)

    def write_value(self, field, value):
        """Gives a field of the row, told by its place, a value, if the store has the row."""
        if len(self.row) > 0:
            self.row[field] = value

    def is_taken(self, name, masks):
        """Whether the condition of a question takes the row now."""
        look = tuple([masks[field][value] for field, value in enumerate(self.row)])
        return look in self.program.conditions[name].looks

    def asked_thing(self, name, masks):
        """What an asking of a question gives of the row."""
        return Twofold(self.row, self.row) if self.is_taken(name, masks) else OUT

    def taken_thing(self, step, masks):
        """What the answer that a look step takes has of the row."""
        thing = self.things[step.source]
        if not asks(self.program, self.going_by, step, thing != UNASKED):
            return thing
        answer = self.asked_thing(step.source, masks)
        if self.going_by[step.kind] == "keep":
            self.things[step.source] = answer
        return answer

    def do_plain(self, step, choice, masks):
        """Does a step that is no pick, no `others` and no value step.

        Choice is 1 if the row's key is chosen or in the cut, 0 if not.
        """
        if step.kind == "build":
            at_once = asks_at_once(self.going_by, step)
            self.things[step.name] = self.asked_thing(step.name, masks) if at_once else UNASKED
        elif step.kind in Book.LOOKS:
            self.look_at(step, choice, masks)
        elif step.kind == "leave":
            del self.things[step.name]
        elif step.kind == "wipe":
            if self.is_taken(step.name, masks):
                self.row = []
        elif isinstance(self.things[step.name], Twofold):
            self.do_to(step, self.things[step.name])

    def look_at(self, step, choice, masks):
        answer = self.taken_thing(step, masks)
        if choice == 0:
            answer = OTHER if step.kind == "item" else OUT
        if step.name != "":
            self.things[step.name] = answer

    def do_to(self, step, thing):
        """Does a deed, but for set and add, to an object of the row. What is refused changes nothing."""
        if step.kind == "save":
            self.save_thing(step, thing)
        elif step.kind == "delete":
            self.row = []
        elif step.kind == "reread" or step.way == "fresh":
            self.reread_thing(thing)

    def save_thing(self, step, thing):
        """Saves an object. A whole save puts a row that is not there; its fields are all of the row's."""
        if step.way == "":
            self.row = list(thing.held)
        if len(self.row) > 0:
            for place in saved_fields(self.program.form, step, thing):
                self.row[place] = thing.held[place]
                thing.seen[place] = thing.held[place]

    def reread_thing(self, thing):
        if len(self.row) > 0:
            thing.held = list(self.row)
            thing.seen = list(self.row)

    def replaced_value(self, step, masks):
        """The value of the row that a value step is about to replace here; None if nothing gets the new one.

        With `fresh` the object is reread first, so this is a part of the step.
        """
        if step.kind == "update" or step.kind == "raise":
            return self.row[self.place_of(step)] if self.is_taken(step.name, masks) else None
        return self.held_value(step)

    def held_value(self, step):
        """The value of a deed's field that the object of the row holds, behind the reread that `fresh` asks for; None
        if the name holds no such object."""
        thing = self.things[step.name]
        if not isinstance(thing, Twofold):
            return None
        if step.way == "fresh":
            self.reread_thing(thing)
        return thing.held[self.place_of(step)]

    def replace_value(self, step, value):
        """Puts the new value of a value step where `replaced_value` found the old one."""
        if step.kind == "update" or step.kind == "raise":
            self.row[self.place_of(step)] = value
        else:
            thing = self.things[step.name]
            thing.held[self.place_of(step)] = value

    def place_of(self, step):
        """The place of the one field of a step."""
        return self.program.form.fields.index(step.fields[0])

    def shown_part(self, step, masks):
        """What a step that shows something shows of the row: of `show` the value, or None for nothing; of a look
        whether the answer that it takes has an object of the row. It is a part of the step."""
        if step.kind == "show":
            return self.held_value(step)
        return isinstance(self.taken_thing(step, masks), Twofold)


def told_side(row, things, numbering):
    """The triple (row, holds, objects) of a list of values and a dict from names to Twofold objects or words."""
    told_row = numbering.numbers_of(row)
    places = {}
    for name in sorted(things):
        thing = things[name]
        if isinstance(thing, Twofold) and thing not in places:
            places[thing] = len(places)
    holds = [(name, told_thing(things[name], places)) for name in sorted(things)]
    objects = [numbering.pairs_of(thing) for thing in places]
    return told_row, tuple(holds), tuple(objects)


def told_thing(thing, places):
    """What a side tells of a name: a word, or the number of an object."""
    return places[thing] if isinstance(thing, Twofold) else thing


def saved_fields(form, step, thing):
    """The places of the fields that a save stores."""
    if step.way == "touched":
        return touched_places(thing)
    return [form.fields.index(field) for field in step.fields]


def touched_places(thing):
    """The places of the fields of an object that are touched: those that are held unlike they were read."""
    return [place for place, (held, seen) in enumerate(zip(thing.held, thing.seen)) if held != seen]


class Numbering:
    """Numbers for the values of each field, from 0, in the order in which they are met."""

    def __init__(self, width):
        self.met = [{} for field in range(width)]

    def number_of(self, field, value):
        known = self.met[field]
        if value not in known:
            known[value] = len(known)
        return known[value]

    def numbers_of(self, row):
        """The numbers of the values of a row."""
        return tuple([self.number_of(field, value) for field, value in enumerate(row)])

    def pairs_of(self, thing):
        """The pairs of numbers of an object: of the value that it holds, and then of the one that it has read."""
        pairs = []
        for field, (held, seen) in enumerate(zip(thing.held, thing.seen)):
            number = self.number_of(field, held)
            pairs.append((number, self.number_of(field, seen)))
        return tuple(pairs)

    def masks_of(self, masks):
        """The masks of the values that were met, by their numbers."""
        return tuple([tuple([masks[field][value] for value in known]) for field, known in enumerate(self.met)])
