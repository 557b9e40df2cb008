"""Judging a program under two books: a shortest run that reaches a goal, or a closed table of worlds."""

from latequestions.following import told_behind_label
from latequestions.searching import Search
from latequestions.worlds import MOST_WORLDS


class Verdict:
    """What is found of a program under two books."""

    def __init__(self, program, here, there):
        self.program = program
        self.here = here
        self.there = there

    def told(self):
        """The texts of the two books."""
        return [str(self.here), str(self.there)]


class Same(Verdict):
    """No run reaches a goal: the paper has all worlds."""

    def __init__(self, program, here, there, worlds):
        Verdict.__init__(self, program, here, there)
        self.paper = ("never", tuple(worlds))

    def __bool__(self):
        return True

    def __len__(self):
        return len(self.paper[1])

    def told(self):
        """The texts of the books, and how many worlds there are."""
        return super().told() + [f"same in {len(self.paper[1])} worlds"]


class Parts(Verdict):
    """A goal is reached: the paper has a run with the fewest labels, the lines tell it."""

    def __init__(self, program, here, there, run, lines):
        Verdict.__init__(self, program, here, there)
        start, labels = run
        self.paper = ("run", start, labels)
        self.lines = tuple(lines)

    def __bool__(self):
        return False

    def __len__(self):
        return len(self.paper[2])

    def told(self):
        """The texts of the books, and the run: its start, its labels with their rows, and the goal."""
        return super().told() + list(self.lines)


def judge(program, here, there, *, goals=None, against=None, most=MOST_WORLDS):
    """The verdict on a program under two books: whether a run reaches a goal, by default one of the usual ones."""
    search = Search(program, here, there, goals, against, most)
    run = search.shortest_run()
    if run is None:
        return Same(program, here, there, search.table.worlds())
    return Parts(program, here, there, run, run_lines(search, run))


def run_lines(search, run):
    """The lines that tell a run."""
    start, labels = run
    masks = ["nothing"] if start == () else [str(mask) for mask in start]
    lines = [" ".join(["starts with", *masks])]
    world = search.table.after(start, ())
    for label in labels:
        lines.append(label_line(search.table.program, world[0], label))
        world = told_behind_label(search.table.followers(world), label)
    goal = search.reached_goals(start, labels)[0]
    lines.append(f"reaches {goal}")
    return lines


def label_line(program, at, label):
    """The line of one label, which is taken at a step."""
    parts = "-" if label == () else ",".join([str(part) for part in label])
    row = program.rows[program.steps[at].row]
    return f"{at:>3} {parts:<16} {row}"
