"""Programs: rows that build questions, look at them, and change objects and the store."""

from latequestions.errors import BadRow, NoName, NoTurn, TooMany
from latequestions.kinds import is_integer
from latequestions.reading import Reading, entries, step_rows
from latequestions.writing import bare_row, turned_row

MOST_ROWS = 60
MOST_STEPS = 40


class Step:
    """A step of a program: its row, what it does to which names and fields, and what may come next."""

    def __init__(self, row, written, kind, name, in_walk, then):
        self.row = row
        self.kind = kind
        self.name = name
        self.source = written.source
        self.fields = written.fields
        self.way = written.way
        self.in_walk = in_walk
        self.then = tuple(then)


class Program:
    """Rows in canonical form, which belong to a form, and their steps."""

    def __init__(self, rows, form):
        if not isinstance(rows, (list, tuple)):
            raise BadRow(-1)
        if len(rows) > MOST_ROWS:
            raise TooMany("rows")
        reading = Reading(form)
        for row in rows:
            reading.take_row(row)
        reading.finish()
        steps = steps_of(reading)
        if len(steps) > MOST_STEPS:
            raise TooMany("steps")
        self.form = form
        self.rows = tuple([written.canonical for written in reading.written])
        self.steps = steps
        self.written = tuple(reading.written)
        self.covered = tuple(reading.covered)
        self.kinds = dict(reading.kinds)
        self.conditions = dict(reading.conditions)
        self.settled = settled_names(self)

    @classmethod
    def of(cls, form, *rows):
        """The program of these rows."""
        return cls(rows, form)

    def __len__(self):
        return len(self.steps)

    def __eq__(self, other):
        return isinstance(other, Program) and self.rows == other.rows and self.form == other.form

    def __str__(self):
        return "\n".join(self.rows)

    def names(self, kind=None):
        """The names of a kind, by default of all kinds, ascending."""
        return tuple(sorted([name for name in self.kinds if kind is None or self.kinds[name] == kind]))

    def condition_of(self, name):
        """The condition of a question."""
        if not isinstance(name, str) or name not in self.conditions:
            raise NoName(name)
        return self.conditions[name]

    def busy(self):
        """The program with an `others` wherever one may stand."""
        rows = []
        before = ""
        for row, covered in zip(self.rows, self.covered):
            if not covered and row != "others" and before != "others":
                rows.append("others")
            rows.append(row)
            before = row
        if before != "others":
            rows.append("others")
        return Program(rows, self.form)

    def calm(self):
        """The program without its `others`."""
        return Program([row for row in self.rows if row != "others"], self.form)

    def turnable(self):
        """The indexes of the rows that can be turned, ascending."""
        return [at for at, written in enumerate(self.written) if can_turn(written)]

    def turned(self, rows):
        """The program in which these rows are turned."""
        possible = self.turnable()
        for row in rows:
            if not is_integer(row) or row not in possible:
                raise NoTurn(row)
        texts = [turned_row(written) if at in rows else written.canonical for at, written in enumerate(self.written)]
        return Program(texts, self.form)

    def goes_along(self, other):
        """Whether the other program has the same form and rows, apart from what can be turned."""
        bare = [bare_row(written) for written in self.written]
        return self.form == other.form and bare == [bare_row(written) for written in other.written]


def can_turn(written):
    """Whether a row can be turned."""
    return turned_row(written) != written.canonical


def settled_names(program):
    """The names whose answer no look changes: listings and listed questions."""
    listed = [step.name for step in program.steps if step.way == "now"]
    return {name: True for name in program.kinds if name in listed or program.kinds[name] == "listing"}


def steps_of(reading):
    """The steps of the rows, in their order."""
    rows = step_rows(reading)
    entry = entries(reading, rows)
    return tuple([step_of(reading, row, entry) for row in rows])


def step_of(reading, row, entry):
    """The step of one row; entry tells the step that comes next from each row."""
    written = reading.written[row]
    in_walk = reading.in_walks[row]
    if written.kind == "end":
        return Step(row, written, "leave", reading.block_at[row].walker, in_walk, [entry[row + 1]])
    if written.kind == "repeat":
        block = reading.block_at[row]
        return Step(row, written, "pick", "", in_walk, [entry[block.end + 1], entry[row + 1]])
    if written.kind == "either":
        block = reading.block_at[row]
        return Step(row, written, "pick", "", in_walk, [entry[begin] for begin in block.begins])
    return Step(row, written, written.kind, written.name, in_walk, [entry[row + 1]])
