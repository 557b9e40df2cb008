"""The signs of worlds and of moves, which goals ask for: triples (kind, field, whether only at the end)."""

from latequestions.moments import CHOICE_KINDS
from latequestions.sides import Twofold, saved_fields, touched_places

SHOWING = ("len", "truth", "count", "any", "has", "show")
BINDING = ("build", "list", "item", "part", "walk", "leave")
REFUSABLE = ("reread", "delete")


def world_signs(program, world):
    """The signs of a world of a program: those of states, where the run is over also those with `end`."""
    at, here, there, masks = world
    pairs = row_signs(program.form, here[0], there[0]) + object_signs(program.form, here[2])
    ends = (False, True) if at == len(program.steps) else (False,)
    return [(kind, field, at_end) for kind, field in pairs for at_end in ends]


def row_signs(form, row, other):
    """What the rows of the two stores tell."""
    if row == () and other == ():
        return []
    if row == ():
        return [("missing", "")]
    if other == ():
        return [("extra", "")]
    return [("differs", field) for field, one, two in zip(form.fields, row, other) if one != two]


def object_signs(form, objects):
    """What the objects here tell."""
    pairs = []
    for place, field in enumerate(form.fields):
        if any([thing[place][0] != thing[place][1] for thing in objects]):
            pairs.append(("unsaved", field))
    if len(objects) > 1:
        pairs.append(("twice", ""))
    return pairs


def all_move_signs(following, world, labels):
    """For each label of a world the signs of its move. They are the same for all labels but those of a choice."""
    if len(labels) == 0:
        return []
    if following.programs[0].steps[world[0]].kind in CHOICE_KINDS:
        return [move_signs(following, world, label) for label in labels]
    signs = move_signs(following, world, labels[0])
    return [signs for label in labels]


def move_signs(following, world, label):
    """The signs of the move of a label from a world. Picks and deeds of others have none."""
    at = world[0]
    program, against = following.programs
    step = program.steps[at]
    moment = following.moment_of(world)
    pairs = deed_signs(moment.here, step)
    if step.kind in SHOWING and label != (0,) and shows_unlike(moment, step, against.steps[at]):
        pairs.append(("shown", ""))
    if step.kind in BINDING:
        pairs.extend(dropped_signs(moment, step, against.steps[at], label))
    return [(kind, field, False) for kind, field in pairs]


def deed_signs(side, step):
    """What is refused here, or saved over something; only deeds have such signs."""
    if step.kind == "save":
        thing = side.things[step.name]
        return save_signs(side, step, thing) if isinstance(thing, Twofold) else []
    is_refusable = step.kind in REFUSABLE or step.way == "fresh"
    if is_refusable and side.row == [] and isinstance(side.things[step.name], Twofold):
        return [("gone", "")]
    return []


def save_signs(side, step, thing):
    """What a save of an object of the row does here."""
    form = side.program.form
    places = saved_fields(form, step, thing)
    if side.row == []:
        if step.way == "":
            return [("returns", "")]
        return [("gone", "")] if len(places) > 0 else []
    marked = touched_places(thing)
    crossed = [place for place in places if place in marked and side.row[place] != thing.seen[place]]
    elder = [place for place in places if place not in marked and side.row[place] != thing.held[place]]
    return [("crossed", form.fields[place]) for place in crossed] + [("elder", form.fields[place]) for place in elder]


def shows_unlike(moment, step, other_step):
    """Whether something else of the row is shown here than there. The shown parts of the steps are then done."""
    one = moment.here.shown_part(step, moment.masks)
    return one != moment.there.shown_part(other_step, moment.masks)


def dropped_signs(moment, step, other_step, label):
    """What is dropped here by a step that binds or unbinds a name."""
    fields = moment.here.program.form.fields
    marked = [(thing, touched_places(thing)) for thing in moment.here.held_things()]
    moment.take_label(step, other_step, label)
    kept = moment.here.held_things()
    return [("dropped", fields[place]) for thing, places in marked if thing not in kept for place in places]
