"""An oracle for the tests of pairs: two programs on two real stores, side by side by their marks, with the key 1.

It is written by points 19, 20, 30 and 31 of the document alone.
"""

import itertools

from latequestions.runs import Outside, Run
from latequestions.stores import Store
from twinned import Play, Twins

MARKS = {
    "item": "key", "has": "has", "part": "cut", "set": "value", "add": "value", "update": "value", "raise": "value",
    "others": "others", "len": "number", "count": "number", "truth": "truth", "any": "truth",
}


def mark(program, at):
    """The mark at which a program stands, None for a silent step."""
    if at == len(program.steps):
        return "end"
    step = program.steps[at]
    if step.kind == "pick":
        return f"pick {len(step.then)}"
    if step.kind == "show":
        return f"{'shows' if step.in_walk else 'show'} {step.fields[0]}"
    return MARKS.get(step.kind)


class Two(Twins):
    """Two runs of any programs of one form; what a key is, is told by the sides of Twins."""

    def __init__(self, programs, books, rows, filters, outsides):
        self.form = programs[0].form
        self.filters = filters
        self.runs = []
        for program, book, outside in zip(programs, books, outsides):
            self.runs.append(Run(program, Store(self.form, rows, filters, book=book), outside))
        self.outside = outsides[0]
        self.chosen_by = [{}, {}]
        self.keys_taken = 0

    def step_both(self):
        kinds = [run.program.steps[run.at] for run in self.runs]
        for run, step, chosen in zip(self.runs, kinds, self.chosen_by):
            run.step()
            if step.kind == "item":
                chosen[step.name] = self.outside.choices[self.keys_taken]
        if kinds[0].kind in ("item", "has"):
            self.keys_taken += 1

    def pass_silent(self):
        for run in self.runs:
            while mark(run.program, run.at) is None:
                run.step()

    def thing_of(self, run, name, key, met):
        self.chosen = self.chosen_by[0 if run is self.runs[0] else 1]
        return super().thing_of(run, name, key, met)

    def pair_of(self, key):
        told = self.world_of(key)
        return self.runs[0].at, self.runs[1].at, *told[1:]


class PairPlay(Play):
    """The run of a start and labels made real with the key 1, for two programs."""

    def __init__(self, programs, books, start, labels):
        self.form = programs[0].form
        self.programs = programs
        self.known = {}
        self.labels = labels
        self.marks_passed = []
        parts = {"picks": [], "choices": [], "cuts": [], "deeds": []}
        count = itertools.count(1)
        self.listed = []
        ats = [self.at_mark(program, 0) for program in programs]
        for label in labels:
            branch = self.note_outside(mark(programs[0], ats[0]), label, parts, count)
            if branch is not None:
                ats = [self.at_mark(program, program.steps[at].then[branch]) for program, at in zip(programs, ats)]
        if self.listed:
            parts["deeds"].append(self.listed)
        rows = {1: {field: 1 for field in self.form.fields}} if start else {}
        for field, mask in zip(self.form.fields, start):
            self.note(field, 1, mask)
        filters = {name: self.filter_of(name) for name in self.form.filters_of()}
        # One key more, for a last `has`.
        outside = Outside(parts["picks"], parts["choices"] + [1], parts["cuts"], parts["deeds"],
                          value=lambda n, key: 2 ** (60 + n))
        self.twins = Two(programs, books, rows, filters, [outside, outside])

    def at_mark(self, program, at):
        while mark(program, at) is None:
            at = program.steps[at].then[0]
        return at

    def note_outside(self, now, label, parts, count):
        """Notes what a label needs from outside; returns the branch that is taken, None for a deed."""
        if now.startswith("pick"):
            parts["picks"].append(label[0])
            return label[0]
        if now in ("key", "has"):
            parts["choices"].append(2 - label[0])
        elif now == "cut":
            parts["cuts"].append((1, 2) if label[0] else (2, 3))
        elif now == "others" and label != ("go",):
            self.listed.append(self.deed_of(label, count))
            return None
        elif now == "others":
            parts["deeds"].append(self.listed)
            self.listed = []
        return 0

    def go(self):
        """Does the run. Deeds are done with the `go` behind them; returns the last pair that was told."""
        self.twins.pass_silent()
        for label in self.labels:
            marks = [mark(run.program, run.at) for run in self.twins.runs]
            assert marks[0] == marks[1], marks
            if marks[0] == "others" and label != ("go",):
                continue
            steps = [run.program.steps[run.at] for run in self.twins.runs]
            befores = [run.store.told() for run in self.twins.runs]
            self.twins.step_both()
            if marks[0] == "value":
                self.note_news(self.news(steps, befores), label)
            self.twins.pass_silent()
        return self.twins.pair_of(1)

    def news(self, steps, befores):
        """The new values of the row as pairs (field, value), those of the first program first, each once."""
        news = []
        for run, step, before in zip(self.twins.runs, steps, befores):
            field = step.fields[0]
            if step.kind in ("set", "add"):
                news += [(field, thing[field]) for thing in run.objects(step.name) if thing.key == 1]
            elif before != run.store.told():
                news.append((field, run.store.told()[1][field]))
        return list(dict.fromkeys(news))

    def note_news(self, news, label):
        assert len(news) == len(label), (news, label)
        for (field, value), one in zip(news, label):
            self.note(field, value, one)

    def labels_here(self):
        """All labels at the pair where the run has come to, ascending."""
        here, there = self.twins.runs
        now = mark(here.program, here.at)
        if now.startswith("pick"):
            return [(branch,) for branch in range(int(now.split(" ")[1]))]
        if now in ("key", "has", "cut"):
            return [(0,), (1,)]
        if now == "others":
            return self.deeds_here()
        if now == "value":
            steps = [run.program.steps[run.at] for run in self.twins.runs]
            befores = [run.store.told() for run in self.twins.runs]
            self.twins.step_both()
            masks = [range(self.form.mask_count(field)) for field, value in self.news(steps, befores)]
            return list(itertools.product(*masks))
        return [()]

    def deeds_here(self):
        labels = [("go",)] + [("put", *look) for look in self.form.all_looks()]
        if [run for run in self.twins.runs if 1 in run.store]:
            labels.append(("remove",))
            for field in self.form.fields:
                labels += [("write", field, one) for one in range(self.form.mask_count(field))]
        return labels

    def parted(self):
        """How the pair parts where the run has come to; the step is then done."""
        here, there = self.twins.runs
        marks = [mark(run.program, run.at) for run in (here, there)]
        if marks[0] != marks[1]:
            return "rhythm"
        if marks[0] == "end":
            return "end" if here.store.told() != there.store.told() else ""
        if marks[0] in ("has", "number", "truth") or marks[0].startswith("show"):
            self.twins.step_both()
            return "shown" if here.shown[-1] != there.shown[-1] else ""
        return ""
