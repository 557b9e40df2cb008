"""Runs of programs on real stores, with what comes from outside."""

from latequestions.deeds import is_deed
from latequestions.errors import BadDeed, BadPick, Gone, NoName, OtherForm, Over, Waiting
from latequestions.kinds import copied, is_integer
from latequestions.stores import Question, Store


class Outside:
    """What comes from outside: picks, keys, cuts, deeds of others and values, each taken in order."""

    def __init__(self, picks=(), choices=(), cuts=(), deeds=(), *, value=None):
        for several in deeds:
            for deed in several:
                if not is_deed(deed):
                    raise BadDeed(deed)
        self.picks = tuple(picks)
        self.choices = tuple(choices)
        self.cuts = tuple(cuts)
        self.deeds = tuple([tuple(several) for several in deeds])
        if value is None:
            self.value = step_count_itself
        else:
            self.value = value


def step_count_itself(n, key):
    """The value that is given where no function is passed."""
    return n


class Run:
    """A run of a program on a store, step by step."""

    def __init__(self, program, store, outside):
        if not program.form == store.form:
            raise OtherForm()
        self.program = program
        self.store = store
        self.outside = outside
        self.at = 0
        self.values_used = 0
        self.picks_used = 0
        self.keys_used = 0
        self.cuts_used = 0
        self.lists_used = 0
        self.things = {}
        self.chosen = {}
        self.notes = []
        self.refusals = []

    @property
    def is_over(self):
        return self.at == len(self.program.steps)

    @property
    def shown(self):
        return copied(self.notes)

    @property
    def refused(self):
        return list(self.refusals)

    @property
    def bound(self):
        return tuple(sorted(self.things))

    def holding(self, name):
        """The keys that a name holds or keeps: of a question what `kept` tells, of an object name its key or None."""
        thing = self.thing_of(name)
        if isinstance(thing, Question):
            return thing.kept
        keys = tuple([row.key for row in self.objects(name)])
        if self.program.kinds[name] != "object":
            return keys
        return keys[0] if len(keys) > 0 else None

    def objects(self, name):
        """The objects that a name holds or keeps, by ascending key."""
        thing = self.thing_of(name)
        if isinstance(thing, Question):
            return list(thing.answer) if thing.answer is not None else []
        return list(thing)

    def thing_of(self, name):
        """What a name is bound to: a question, a listing, or a tuple of objects."""
        if not isinstance(name, str) or name not in self.things:
            raise NoName(name)
        return self.things[name]

    def step(self):
        """Does the next step."""
        if self.is_over:
            raise Over()
        if self.is_waiting():
            raise Waiting(self.at)
        step = self.program.steps[self.at]
        if step.kind == "pick":
            self.do_pick(step)
        else:
            self.do_step(step)
            self.at = step.then[0]

    def go(self):
        """Does steps until the run is over or waits; returns how many."""
        done = 0
        while not self.is_over and not self.is_waiting():
            self.step()
            done += 1
        return done

    def is_waiting(self):
        """Whether no pick, key or cut is left for the next step."""
        kind = self.program.steps[self.at].kind
        if kind == "pick":
            return self.picks_used >= len(self.outside.picks)
        if kind == "item" or kind == "has":
            return self.keys_used >= len(self.outside.choices)
        return kind == "part" and self.cuts_used >= len(self.outside.cuts)

    def do_pick(self, step):
        pick = self.outside.picks[self.picks_used]
        if not is_integer(pick) or not 0 <= pick < len(step.then):
            raise BadPick(pick)
        self.picks_used += 1
        self.at = step.then[pick]

    def do_step(self, step):
        """Does a step that is no pick. What may raise comes first: a step that raises has not been done."""
        if step.kind == "build":
            condition = self.program.conditions[step.name]
            self.things[step.name] = self.store.question(condition, now=step.way == "now")
        elif step.source != "":
            self.do_look(step)
        elif step.kind == "leave":
            del self.things[step.name]
        elif step.kind == "others":
            self.do_others()
        elif step.kind == "wipe":
            self.things[step.name].wipe()
        elif step.kind == "update" or step.kind == "raise":
            self.do_update(step)
        else:
            self.do_deeds(step)

    def do_look(self, step):
        source = self.things[step.source]
        if step.kind == "list":
            self.things[step.name] = source.listed()
        elif step.kind == "walk":
            self.things[step.name] = tuple(source.walk())
        elif step.kind == "part":
            low, high = self.outside.cuts[self.cuts_used]
            self.things[step.name] = source.part(low, high)
            self.cuts_used += 1
        elif step.kind == "item":
            key = self.outside.choices[self.keys_used]
            row = source.item(key)
            self.things[step.name] = () if row is None else (row,)
            self.chosen[step.name] = key
            self.keys_used += 1
        elif step.kind == "has":
            self.notes.append(source.has(self.outside.choices[self.keys_used]))
            self.keys_used += 1
        else:
            self.notes.append(told_by(source, step.kind))

    def do_others(self):
        """Does the next list of deeds. It counts as used behind its last deed: after an error all are done again."""
        others = self.store.others()
        if self.lists_used < len(self.outside.deeds):
            for deed in self.outside.deeds[self.lists_used]:
                others.do(deed)
        self.lists_used += 1

    def do_update(self, step):
        question = self.things[step.name]
        n = self.values_used
        value = self.outside.value
        if step.kind == "update":
            question.update(step.fields[0], lambda key, old: value(n, key))
        else:
            question.update(step.fields[0], lambda key, old: old + value(n, key))
        self.values_used += 1

    def do_deeds(self, step):
        """Does a deed for each object that the name holds."""
        rows = self.objects(step.name)
        news = self.new_values(step, rows)
        if step.way == "fresh":
            for row in rows:
                self.try_deed(row, "reread", step)
        if step.kind == "show":
            self.notes.append(shown_values(step, rows))
        elif step.kind == "set":
            for row, new in zip(rows, news):
                row[step.fields[0]] = new
        elif step.kind == "add":
            for row, new in zip(rows, news):
                row[step.fields[0]] += new
        else:
            for row in rows:
                self.try_deed(row, step.kind, step)

    def new_values(self, step, rows):
        """The values that a value step brings, all found before an object is changed: the function may raise."""
        if step.kind != "set" and step.kind != "add":
            return []
        n = self.values_used
        value = self.outside.value
        news = [value(n, row.key) for row in rows]
        self.values_used += 1
        return news

    def try_deed(self, row, kind, step):
        """Does what may be refused with one object, and notes it if it is."""
        try:
            do_deed(row, kind, step)
        except Gone:
            self.refusals.append((self.at, row.key))


def told_by(source, kind):
    """What one of the looks without a key shows."""
    if kind == "len":
        return source.size()
    if kind == "count":
        return source.count()
    if kind == "truth":
        return source.truth()
    return source.is_any()


def shown_values(step, rows):
    """What `show` shows of these objects: a list in a walk, otherwise one pair or None."""
    pairs = [(row.key, row[step.fields[0]]) for row in rows]
    if step.in_walk:
        return pairs
    return pairs[0] if len(pairs) > 0 else None


def do_deed(row, kind, step):
    """Saves, rereads or deletes an object; raises Gone if this is refused."""
    if kind == "reread":
        row.reread()
    elif kind == "delete":
        row.delete()
    elif step.way == "touched":
        row.save_touched()
    elif step.way == "by":
        fields = step.fields
        row.save(*fields)
    else:
        row.save()


def perform(program, rows, filters, book, outside):
    """What a run on a new store shows, what it is refused, what the store then tells, how often it was asked, and
    whether the run is over."""
    store = Store(program.form, rows, filters, book=book)
    run = Run(program, store, outside)
    run.go()
    return run.shown, run.refused, store.told(), store.asked, run.is_over
