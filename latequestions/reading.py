"""Reading the rows of a program one after another: where they may stand, and which names they may use."""

from latequestions.errors import BadCondition, BadRow
from latequestions.forms import Condition, filter_condition
from latequestions.sums import SumReader
from latequestions.writing import written_row

MOST_DEPTH = 3
MOST_NAMES = 6

BLOCKS = ("walk", "repeat", "either", "quiet")
DEEDS = ("set", "add", "show", "save", "reread", "delete")
QUESTION_DEEDS = ("update", "raise", "wipe")
BOUND_KINDS = {"build": "question", "list": "listing", "part": "listing", "item": "object", "walk": "walker"}


class Block:
    """A block: its first row, where its branches begin, its `end`, and which names are set around it.

    `begins` are the rows behind the first one and behind each `or`; `ready` are the names that are set before it,
    `ends` those that are set behind each branch that is read.
    """

    def __init__(self, kind, row, ready, walker):
        self.kind = kind
        self.row = row
        self.begins = [row + 1]
        self.end = row
        self.ready = dict(ready)
        self.ends = []
        self.walker = walker


class Reading:
    """The rows read so far, the names that they bind, and the blocks that are open."""

    def __init__(self, form):
        self.form = form
        self.written = []
        self.covered = []
        self.in_walks = []
        self.kinds = {}
        self.conditions = {}
        self.ready = {}
        self.opened = []
        self.block_at = {}
        self.known = {name: filter_condition(name, form) for name in form.filters_of()}
        self.known["all"] = Condition.of(form, form.possible)

    def take_row(self, row):
        """Reads the next row, any value; raises BadRow if it is wrong."""
        at = len(self.written)
        written = written_row(row, self.form) if isinstance(row, str) else None
        if written is None or not self.may_stand(written) or not self.may_use(written):
            raise BadRow(at)
        self.covered.append(self.is_within("walk") or self.is_within("quiet"))
        self.in_walks.append(self.is_within("walk") and written.kind != "end")
        if written.kind in BOUND_KINDS:
            self.bind(at, written)
        if written.kind in BLOCKS:
            self.open_block(at, written)
        elif written.kind == "or":
            self.part_block(at)
        elif written.kind == "end":
            self.close_block(at)
        self.written.append(written)

    def finish(self):
        """Raises BadRow if an `end` is missing."""
        if len(self.opened) > 0:
            raise BadRow(len(self.written))

    def is_within(self, kind):
        """Whether a block of this kind is open."""
        return any([block.kind == kind for block in self.opened])

    def may_stand(self, written):
        """Whether a row of this kind may stand here."""
        if written.kind == "end":
            return len(self.opened) > 0 and not lacks_branches(self.opened[-1])
        if written.kind == "or":
            return len(self.opened) > 0 and self.opened[-1].kind == "either"
        if self.is_within("walk"):
            return written.kind in DEEDS
        if written.kind == "others":
            return not self.is_within("quiet")
        return written.kind not in BLOCKS or len(self.opened) < MOST_DEPTH

    def may_use(self, written):
        """Whether the names that a row uses, but for those in an EXPR, are set and of the right kinds."""
        if written.source != "":
            return self.is_ready(written.source, "question") or self.is_ready(written.source, "listing")
        if written.kind in QUESTION_DEEDS:
            return self.is_ready(written.name, "question")
        if written.kind not in DEEDS:
            return True
        if self.is_within("walk"):
            return written.name == self.opened[-1].walker
        return self.is_ready(written.name, "object")

    def is_ready(self, name, kind):
        """Whether a name is set here, and of this kind."""
        return name in self.ready and self.kinds[name] == kind

    def bind(self, at, written):
        """Binds the name of a row; a question gets its condition."""
        name = written.name
        kind = BOUND_KINDS[written.kind]
        if not self.may_bind(name, kind):
            raise BadRow(at)
        if kind == "question":
            self.conditions[name] = self.read_condition(at, written)
        self.kinds[name] = kind
        # The walker is set in its block only, where its name is asked for by `may_use`.
        if kind != "walker":
            self.ready[name] = True

    def may_bind(self, name, kind):
        """Whether a row may bind a name in this kind."""
        if name in self.form or name in self.known:
            return False
        if name in self.kinds:
            return self.kinds[name] == kind and kind != "question"
        return len(self.kinds) < MOST_NAMES

    def read_condition(self, at, written):
        """The condition of a building. Its own name is not set yet, as no other row builds it."""
        questions = {name: self.conditions[name] for name in self.ready if self.kinds[name] == "question"}
        known = {**self.known, **questions}
        tokens = list(enumerate(written.expr))
        try:
            return SumReader(tokens, len(tokens), known).read_whole()
        except BadCondition:
            raise BadRow(at) from None

    def open_block(self, at, written):
        block = Block(written.kind, at, self.ready, written.name)
        self.opened.append(block)
        self.block_at[at] = block

    def part_block(self, at):
        """At an `or`: the branch ends, and the next one begins with what was set before the block."""
        block = self.opened[-1]
        block.begins.append(at + 1)
        block.ends.append(dict(self.ready))
        self.ready = dict(block.ready)
        self.block_at[at] = block

    def close_block(self, at):
        block = self.opened.pop()
        block.end = at
        block.ends.append(dict(self.ready))
        self.ready = ready_behind(block)
        self.block_at[at] = block


def lacks_branches(block):
    """Whether a block is an `either` without an `or`."""
    return block.kind == "either" and len(block.begins) == 1


def ready_behind(block):
    """The names that are set behind a block: a `repeat` may be left out, of an `either` one branch is done."""
    if block.kind == "repeat":
        return dict(block.ready)
    first = block.ends[0]
    return {name: True for name in first if all([name in ready for ready in block.ends])}


def step_rows(reading):
    """The indexes of the rows that are steps."""
    return [at for at, written in enumerate(reading.written) if is_step(reading, at, written.kind)]


def is_step(reading, at, kind):
    """Whether a row is a step: of the rows `end` only those of walks."""
    if kind == "end":
        return reading.block_at[at].kind == "walk"
    return kind != "or" and kind != "quiet"


def entries(reading, rows):
    """For each row, and behind the last one, the number of the step that is done next when a run comes there.

    Rows are those that are steps. It is found from the last row to the first: only the `end` of a repeat leads back.
    """
    numbers = {row: number for number, row in enumerate(rows)}
    count = len(reading.written)
    found = {count: len(rows)}
    for at in reversed(range(count)):
        kind = reading.written[at].kind
        if at in numbers:
            found[at] = numbers[at]
        elif kind == "or":
            found[at] = found[reading.block_at[at].end + 1]
        elif kind == "end" and reading.block_at[at].kind == "repeat":
            found[at] = numbers[reading.block_at[at].row]
        else:
            found[at] = found[at + 1]
    return found
