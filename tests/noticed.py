"""An oracle for the tests of goals: what a run has come to, noticed on two real stores with the key 1.

It is written by points 24 and 25 of the document alone: touched fields, refusals, shown values and objects are those of
the real stores and runs.
"""

from twinned import Play

STATES = ("differs", "missing", "extra", "unsaved", "twice")
FIELDED = ("differs", "unsaved", "elder", "crossed", "dropped")


def all_goals(form, ends=(False, True)):
    """The texts of all goals of a form."""
    texts = []
    for kind in STATES + ("shown", "gone", "elder", "crossed", "returns", "dropped"):
        words = [f"{kind} {field}" for field in form.fields] if kind in FIELDED else [kind]
        texts += words
        texts += [f"{text} end" for text in words if kind in STATES and True in ends]
    return texts


def objects_of(run):
    """The objects of the key 1 that names of a run hold or keep, each once."""
    met = []
    for name in run.bound:
        met += [one for one in run.objects(name) if one.key == 1 and not [known for known in met if known is one]]
    return met


def noticed_state(twins):
    """The texts of the goals of states that the two runs are as now."""
    here, there = [run.store.told().get(1) for run in twins.runs]
    texts = []
    if here is not None and there is not None:
        texts += [f"differs {field}" for field in here if here[field] != there[field]]
    elif here is None and there is not None:
        texts.append("missing")
    elif there is None and here is not None:
        texts.append("extra")
    objects = objects_of(twins.runs[0])
    texts += [f"unsaved {field}" for field in twins.form.fields if [one for one in objects if field in one.touched]]
    if len(objects) >= 2:
        texts.append("twice")
    if twins.runs[0].is_over:
        texts += [f"{text} end" for text in texts]
    return texts


class Noticing:
    """The last move of a run of start and labels, done on real stores, and what was noticed in it."""

    def __init__(self, program, against, here, there, start, labels):
        self.play = Play(program, against, here, there, start, labels)
        self.twins = self.play.twins
        self.program = program
        self.moves = []
        last = len(labels) - 1
        for at, label in enumerate(labels):
            step = program.steps[self.twins.runs[0].at]
            if step.kind == "others" and label != ("go",):
                assert at < last, "the last move is a step"
                continue
            befores = [run.store.told() for run in self.twins.runs]
            before = self.before_step(step)
            self.twins.step()
            if step.kind in ("set", "add", "update", "raise"):
                self.play.note_new(step, label, befores)
            self.moves = before + self.behind_step()

    def before_step(self, step):
        """What a save of the next step stores; also notes what the step may change."""
        run = self.twins.runs[0]
        self.touched_before = [(one, one.touched) for one in objects_of(run)]
        self.counts = [len(run.refused)] + [len(one.shown) for one in self.twins.runs]
        if step.kind != "save":
            return []
        row = run.store.told().get(1)
        return [text for one in run.objects(step.name) if one.key == 1 for text in save_texts(step, one, row)]

    def behind_step(self):
        here, there = self.twins.runs
        texts = []
        if len(here.refused) > self.counts[0]:
            assert here.refused[-1][1] == 1
            texts.append("gone")
        if len(here.shown) > self.counts[1] and here.shown[-1] != there.shown[-1]:
            texts.append("shown")
        kept = objects_of(here)
        for one, touched in self.touched_before:
            if not [known for known in kept if known is one]:
                texts += [f"dropped {field}" for field in touched]
        return texts


def save_texts(step, one, row):
    """What a save of an object does to the store's row, None if there is none."""
    if row is None:
        return ["returns"] if step.way == "" else []
    stored = one.touched if step.way == "touched" else step.fields
    texts = []
    for field in stored:
        if field in one.touched and row[field] != one.read_value(field):
            texts.append(f"crossed {field}")
        if field not in one.touched and row[field] != one[field]:
            texts.append(f"elder {field}")
    return texts
