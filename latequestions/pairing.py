"""Two programs side by side: the marks of their steps, where they part, and the followers of pairs."""

from latequestions.following import Following, value_labels
from latequestions.moments import CHOICE_KINDS
from latequestions.sides import VALUE_KINDS
from latequestions.signs import SHOWING, shows_unlike

MARKS = {
    "item": "key", "has": "has", "part": "cut", "set": "value", "add": "value", "update": "value", "raise": "value",
    "others": "others", "len": "number", "count": "number", "truth": "truth", "any": "truth",
}
SILENT = ""


def mark_of(step):
    """The mark of a step, SILENT if it has none."""
    if step.kind == "pick":
        return f"pick {len(step.then)}"
    if step.kind == "show":
        return f"shows {step.fields[0]}" if step.in_walk else f"show {step.fields[0]}"
    return MARKS.get(step.kind, SILENT)


def mark_at(program, at):
    """The mark at which a program stands."""
    return "end" if at == len(program.steps) else mark_of(program.steps[at])


def pass_silent(side, at, masks):
    """Does the silent steps of a side from a step on; returns the number of the next step, which has a mark."""
    while mark_at(side.program, at) == SILENT:
        step = side.program.steps[at]
        side.do_plain(step, 1, masks)
        at = step.then[0]
    return at


class Pairing(Following):
    """The pairs of two programs of one form, each under its own book. Pairs stand where worlds stand in a Following."""

    def first_told(self):
        """Pairs (start, pair): the first worlds with the silent steps done."""
        worlds = super().first_told()
        return [(start, self.told_at_marks(self.moment_of(world), 0, 0)) for start, world in worlds]

    def next_told(self, pair):
        """The followers of a pair: pairs (label, pair), by ascending label. Nothing follows where the programs part."""
        if self.parting(pair) != "" or pair[0] == len(self.programs[0].steps):
            return []
        step, other_step = self.steps_at(pair)
        if step.kind == "others":
            return [(("go",), self.pair_behind(pair, ("go",)))] + self.deeds_behind(pair)
        return [(label, self.pair_behind(pair, label)) for label in self.mark_labels(pair)]

    def steps_at(self, pair):
        """The next steps of the two programs, neither of which is over."""
        program, other = self.programs
        return program.steps[pair[0]], other.steps[pair[1]]

    def parting(self, pair):
        """How a pair parts, an empty string if it does not."""
        program, other = self.programs
        at, other_at, here, there, masks = pair
        mark = mark_at(program, at)
        if mark != mark_at(other, other_at):
            return "rhythm"
        if mark == "end":
            return "end" if here[0] != there[0] else ""
        step, other_step = self.steps_at(pair)
        if step.kind in SHOWING and shows_unlike(self.moment_of(pair), step, other_step):
            return "shown"
        return ""

    def mark_labels(self, pair):
        """The labels, ascending, at a pair that stands at no `others`."""
        step, other_step = self.steps_at(pair)
        if step.kind == "pick":
            return [(branch,) for branch in range(len(step.then))]
        if step.kind in CHOICE_KINDS:
            return [(0,), (1,)]
        if step.kind in VALUE_KINDS:
            return value_labels(self.form, self.moment_of(pair).replace_values(step, other_step))
        return [()]

    def pair_behind(self, pair, label):
        """The pair behind a label with which both programs do a step."""
        step, other_step = self.steps_at(pair)
        moment = self.moment_of(pair)
        moment.take_label(step, other_step, label)
        branch = label[0] if step.kind == "pick" else 0
        return self.told_at_marks(moment, step.then[branch], other_step.then[branch])

    def told_at_marks(self, moment, at, other_at):
        """The pair of a moment with the silent steps from these steps on done."""
        behind = pass_silent(moment.here, at, moment.masks)
        other_behind = pass_silent(moment.there, other_at, moment.masks)
        return moment.told_at((behind, other_behind))
