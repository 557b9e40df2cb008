"""Fates: how soon a run can come to each kind of goals."""

from latequestions.errors import BadGoal, NoField
from latequestions.goals import Goal
from latequestions.signs import all_move_signs, world_signs
from latequestions.worlds import MOST_WORLDS, Worlds


class Fates:
    """The least numbers of labels of runs that reach each kind, with each field where the kind has one."""

    def __init__(self, program, here, there, *, against=None, most=MOST_WORLDS):
        table = Worlds(program, here, there, against=against, most=most)
        self.form = program.form
        self.least_labels = found_fates(table)

    def fate(self, kind, field=""):
        """The fate of a kind, any value, and a field, any value; None if no run comes to it."""
        if kind not in Goal.STATES + Goal.MOVES:
            raise BadGoal(kind)
        is_right = field in self.form if kind in Goal.FIELDED else field == ""
        if not is_right:
            raise NoField(field)
        return self.least_labels.get((kind, field, False))

    def text(self):
        """All fates in two tables: of the kinds with a field, and of the others."""
        others = [kind for kind in Goal.STATES + Goal.MOVES if kind not in Goal.FIELDED]
        lines = [table_line("field", Goal.FIELDED)]
        for field in self.form.fields:
            lines.append(table_line(field, [fate_text(self.fate(kind, field)) for kind in Goal.FIELDED]))
        lines.append(table_line("row", others))
        lines.append(table_line("fate", [fate_text(self.fate(kind)) for kind in others]))
        return "\n".join(lines)


def found_fates(table):
    """A dict from the signs of worlds and moves to the least numbers of labels of runs that come to them."""
    reach = table.reach
    least = {}
    # Worlds are gone through by ascending distance, so the first number that is met is the least one.
    for number, world in enumerate(reach.found):
        for sign in world_signs(table.program, world):
            least.setdefault(sign, reach.distances[number])
        labels = [label for label, behind in reach.edges[number]]
        for signs in all_move_signs(reach.following, world, labels):
            for sign in signs:
                least.setdefault(sign, reach.distances[number] + 1)
    return least


def fate_text(fate):
    return "-" if fate is None else str(fate)


def table_line(first, others):
    """A line of a table: the first column, and the other ones."""
    return "".join([f"{first:<9}"] + [f" {other:>7}" for other in others])
