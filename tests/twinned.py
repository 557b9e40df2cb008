"""An oracle for the tests of worlds: two real runs side by side, and the world that they are in for one key.

It is written by points 19 and 20 of the document alone, and shares nothing with the package but stores and runs.
"""

import itertools
import random

from latequestions.books import Book
from latequestions.errors import LateError
from latequestions.forms import Form
from latequestions.programs import Program
from latequestions.runs import Outside, Run
from latequestions.stores import Store

FREE = 2


class Twins:
    """Two runs of programs that go along, each on its own store, told for a key as a world."""

    def __init__(self, program, against, here, there, rows, filters, outside):
        self.form = program.form
        self.filters = filters
        self.outside = outside
        stores = [Store(self.form, rows, filters, book=book) for book in (here, there)]
        self.runs = [Run(one, store, outside) for one, store in zip((program, against), stores)]
        self.chosen = {}
        self.keys_taken = 0

    @property
    def at(self):
        return self.runs[0].at

    def step(self):
        step = self.runs[0].program.steps[self.at]
        for run in self.runs:
            run.step()
        if step.kind in ("item", "has"):
            if step.kind == "item":
                self.chosen[step.name] = self.outside.choices[self.keys_taken]
            self.keys_taken += 1

    def mask(self, field, value):
        names = self.form.filters_of(field)
        return sum(2 ** at for at, name in enumerate(names) if self.filters[name](value))

    def world_of(self, key):
        numbers = [{} for field in self.form.fields]

        def number(at, value):
            return numbers[at].setdefault(value, len(numbers[at]))
        sides = [self.side_of(run, key, number) for run in self.runs]
        masks = tuple(tuple(self.mask(field, value) for value in known)
                      for field, known in zip(self.form.fields, numbers))
        return (self.runs[0].at, *sides, masks)

    def side_of(self, run, key, number):
        told = run.store.told()
        row = tuple(number(at, told[key][field]) for at, field in enumerate(self.form.fields)) if key in told else ()
        met = []
        holds = tuple((name, self.thing_of(run, name, key, met)) for name in run.bound)
        objects = []
        for thing in met:
            pairs = []
            for at, field in enumerate(self.form.fields):
                held = number(at, thing[field])
                pairs.append((held, number(at, thing.read_value(field))))
            objects.append(tuple(pairs))
        return row, holds, tuple(objects)

    def thing_of(self, run, name, key, met):
        kind = [kind for kind in ("question", "listing", "object", "walker") if name in run.program.names(kind)][0]
        if kind == "question" and run.holding(name) is None:
            return "unasked"
        if kind == "object" and self.chosen[name] != key:
            return "other"
        for thing in run.objects(name):
            if thing.key == key:
                if not [one for one in met if one is thing]:
                    met.append(thing)
                return [at for at, one in enumerate(met) if one is thing][0]
        return "out"


class Play:
    """The run of a start and labels made real with the key 1, as point 28 says; masks are noted as they come."""

    def __init__(self, program, against, here, there, start, labels):
        self.form = program.form
        self.known = {}
        self.labels = labels
        self.program = program
        deeds, picks, choices, cuts, at = [], [], [], [], 0
        count = itertools.count(1)
        listed = []
        for label in labels:
            kind = program.steps[at].kind
            branch = 0
            if kind == "pick":
                branch = label[0]
                picks.append(branch)
            elif kind in ("item", "has"):
                choices.append(2 - label[0])
            elif kind == "part":
                cuts.append((1, 2) if label[0] else (2, 3))
            elif kind == "others" and label != ("go",):
                listed.append(self.deed_of(label, count))
                continue
            elif kind == "others":
                deeds.append(listed)
                listed = []
            at = program.steps[at].then[branch]
        rows = {1: {field: 1 for field in self.form.fields}} if start else {}
        for field, mask in zip(self.form.fields, start):
            self.note(field, 1, mask)
        filters = {name: self.filter_of(name) for name in self.form.filters_of()}
        outside = Outside(picks, choices, cuts, deeds, value=lambda n, key: FREE ** (60 + n))
        self.twins = Twins(program, against, here, there, rows, filters, outside)

    def deed_of(self, label, count):
        if label[0] == "put":
            value = FREE ** next(count)
            for field, mask in zip(self.form.fields, label[1:]):
                self.note(field, value, mask)
            return "put", 1, tuple(value for field in self.form.fields)
        if label[0] == "write":
            value = FREE ** next(count)
            self.note(label[1], value, label[2])
            return "write", 1, label[1], value
        return "remove", 1

    def note(self, field, value, mask):
        assert self.known.setdefault((field, value), mask) == mask

    def filter_of(self, name):
        field = self.form.field_of(name)
        number = 2 ** self.form.filters_of(field).index(name)
        return lambda value: self.known[field, value] & number > 0

    def worlds(self):
        """The worlds of the run, but for those in the middle of an `others`."""
        told = [self.twins.world_of(1)]
        for label in self.labels:
            step = self.program.steps[self.twins.runs[0].at]
            if step.kind == "others" and label != ("go",):
                continue
            befores = [run.store.told() for run in self.twins.runs]
            self.twins.step()
            if step.kind in ("set", "add", "update", "raise"):
                self.note_new(step, label, befores)
            told.append(self.twins.world_of(1))
        return told

    def note_new(self, step, label, befores):
        """Notes the masks of a value step's label for the new values of the row, those here first."""
        field = step.fields[0]
        news = []
        for run, before in zip(self.twins.runs, befores):
            if step.kind in ("set", "add"):
                news += [thing[field] for thing in run.objects(step.name) if thing.key == 1]
            elif before != run.store.told():
                news.append(run.store.told()[1][field])
        news = list(dict.fromkeys(news))
        assert len(news) == len(label), (news, label)
        for value, mask in zip(news, label):
            self.note(field, value, mask)


FORMS = ("a", "a:f", "a:f b", "a b:f", "a:f b:g", "a:f,g")
# How often the kinds of rows are tried; deeds are often wrong where they are tried.
WEIGHTS = {"build": 1, "bind": 4, "look": 1, "value": 4, "show": 1, "save": 5, "update": 1, "others": 1, "block": 2}


def random_program(seed, most_rows=10, weights=WEIGHTS, forms=FORMS, begin=()):
    """A program of random rows behind the rows of begin; the same seed gives the same one."""
    chance = random.Random(seed)
    form = Form.read(chance.choice(forms))
    kinds = [kind for kind in weights for _ in range(weights[kind])]
    rows, opened = list(begin), []
    for _ in range(most_rows * 10):
        if len(rows) + len(opened) >= most_rows:
            break
        row = random_row(chance, form, kinds if rows else ["build"])
        try:
            blocks = after_row(opened, row)
            Program(rows + [row] + closing(blocks), form)
        except (LateError, IndexError):
            continue
        rows.append(row)
        opened = blocks
    return Program(rows + closing(opened), form)


def after_row(opened, row):
    """The open blocks behind a row."""
    if row == "end":
        return opened[:-1]
    if row == "or":
        return opened[:-1] + ["either or"]
    word = row.split(" ")[0]
    return opened + [word] if word in ("for", "repeat", "either", "quiet") else opened


def closing(opened):
    """The rows that close open blocks, the innermost first."""
    return [row for block in opened[::-1] for row in (["or", "end"] if block == "either" else ["end"])]


def random_row(chance, form, kinds):
    field = chance.choice(form.fields)
    word = chance.choice([*form.filters_of(), "all", "q", "r"])
    name = chance.choice(["q", "r", "xs", "ys"])
    thing = chance.choice(["x", "x", "w"])
    expr = chance.choice([word, word, f"~{word}", f"{word} | q", f"{word} & ~r"])
    rows = {
        "build": [f"q = {expr}", f"r = {expr}", f"q = now {expr}", f"r = now {expr}"],
        "bind": [f"xs = list {name}", f"ys = list {name}", f"x = {name}[?]", f"x = {name}[?]", f"xs = {name}[?:?]"],
        "look": [f"len {name}", f"truth {name}", f"count {name}", f"any {name}", f"has {name}[?]"],
        "value": [f"{thing}.{field} = ?", f"{thing}.{field} += ?", f"fresh {thing}.{field} = ?",
                  f"fresh {thing}.{field} += ?"],
        "show": [f"show {thing}.{field}", f"fresh show {thing}.{field}"],
        "save": [f"save {thing}", f"save {thing} touched", f"save {thing} by {field}", f"reread {thing}",
                 f"delete {thing}"],
        "update": [f"update q.{field} = ?", f"update r.{field} += ?", "wipe q", "wipe r"],
        "others": ["others"],
        "block": [f"for w in {name}", "repeat", "either", "quiet", "or", "end", "end", "end"],
    }
    return chance.choice(rows[chance.choice(kinds)])


def random_book(chance):
    ways = {look: chance.choice(Book.WAYS) for look in Book.LOOKS}
    return chance.choice([Book.usual(), Book.plain(), Book.fresh(), Book(chance.choice(["late", "early"]), **ways)])
