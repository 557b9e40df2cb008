"""Twins: two runs side by side on two real stores, told for any key as a world."""

from latequestions.answers import found
from latequestions.errors import NotAlong
from latequestions.runs import Run
from latequestions.sides import OTHER, OUT, UNASKED, Numbering, Twofold, told_side
from latequestions.stores import Store


class Twin:
    """A run of a program under one book, and one of a program that goes along with it under another."""

    def __init__(self, program, rows, filters, here, there, outside, *, against=None):
        other = program if against is None else against
        if not program.goes_along(other):
            raise NotAlong()
        store = Store(program.form, rows, filters, book=here)
        other_store = Store(program.form, rows, filters, book=there)
        self.stores = (store, other_store)
        self.here = Run(program, store, outside)
        self.there = Run(other, other_store, outside)
        self.at = 0

    def step(self):
        """Does the next step in both runs. What they take from outside is the same: if one cannot, both cannot."""
        self.here.step()
        self.there.step()
        self.at = self.here.at

    def do(self, deed):
        """Does one deed of others in both stores; returns whether either has been written to."""
        sessions = [store.others() for store in self.stores]
        # Both are asked before one is written to: a call that raises an error changes nothing.
        for session in sessions:
            session.must_let_do(deed)
        return any([session.do(deed) for session in sessions])

    def world_of(self, key):
        """The world for a key; equal integers of a field have equal numbers."""
        form = self.here.program.form
        table = self.stores[0].table
        numbering = Numbering(len(form.fields))
        here = told_run(self.here, key, numbering)
        there = told_run(self.there, key, numbering)
        masks = [tuple([table.mask_of(field, value) for value in known])
                 for field, known in zip(form.fields, numbering.met)]
        return self.at, here, there, tuple(masks)


def told_run(run, key, numbering):
    """The side of a run for a key."""
    fields = run.program.form.fields
    row = run.store.table.rows.get(key)
    twofolds = {}
    things = {name: thing_held(run, name, key, twofolds) for name in run.bound}
    return told_side([] if row is None else [row[field] for field in fields], things, numbering)


def thing_held(run, name, key, twofolds):
    """What a bound name of a run has of a key. Twofolds is a dict of the things of the objects that were met so far."""
    kind = run.program.kinds[name]
    if kind == "question" and run.holding(name) is None:
        return UNASKED
    if kind == "object" and run.chosen[name] != key:
        return OTHER
    row = found(run.objects(name), key)
    if row is None:
        return OUT
    if row not in twofolds:
        held = [row.held[field] for field in row.fields]
        twofolds[row] = Twofold(held, [row.seen[field] for field in row.fields])
    return twofolds[row]
