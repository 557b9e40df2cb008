"""Goals: what a run may come to, in a world or by a move."""

from latequestions.errors import BadGoal, NoField
from latequestions.following import told_behind_label
from latequestions.signs import move_signs, world_signs
from latequestions.words import is_name


class Goal:
    """A kind of states or of moves, perhaps with a field; of states perhaps at the end only."""

    STATES = ("differs", "missing", "extra", "unsaved", "twice")
    MOVES = ("shown", "gone", "elder", "crossed", "returns", "dropped")
    FIELDED = ("differs", "unsaved", "elder", "crossed", "dropped")

    def __init__(self, kind, field="", *, at_end=False):
        self.kind = kind
        self.field = field
        self.at_end = at_end

    @classmethod
    def read(cls, text):
        """The goal of a text such as `differs price end`."""
        if not isinstance(text, str):
            raise BadGoal(text)
        kind, *rest = text.split(" ")
        at_end = kind in Goal.STATES and rest[-1:] == ["end"]
        fields = rest[:-1] if at_end else rest
        if kind not in Goal.STATES + Goal.MOVES or not are_fields(kind, fields):
            raise BadGoal(text)
        return cls(kind, "".join(fields), at_end=at_end)

    def __str__(self):
        return " ".join(goal_words(self))

    def __eq__(self, other):
        return (isinstance(other, Goal) and self.kind == other.kind and self.field == other.field
                and self.at_end == other.at_end)


def are_fields(kind, words):
    """Whether these words may stand behind a kind: one name behind those with a field, nothing behind the others."""
    if kind in Goal.FIELDED:
        return len(words) == 1 and is_name(words[0])
    return len(words) == 0


def goal_words(goal):
    """The words of a goal's text."""
    fields = [goal.field] if goal.field != "" else []
    return [goal.kind, *fields, "end"] if goal.at_end else [goal.kind, *fields]


def goal_sign(goal):
    """The sign that worlds and moves have which are as the goal says."""
    return goal.kind, goal.field, goal.at_end


def must_fit_form(form, goal):
    """Raises NoField if the field of a goal is not one of the form."""
    is_without = goal.field == "" and goal.kind not in Goal.FIELDED
    if not is_without and goal.field not in form:
        raise NoField(goal.field)


def usual_goals(form):
    """The goals that no run reaches if the program shows and leaves the same under both books."""
    goals = [Goal("differs", field, at_end=True) for field in form.fields]
    return [*goals, Goal("missing", at_end=True), Goal("extra", at_end=True), Goal("shown")]


def goal_of(table, goal, world):
    """Whether a world of a table is as the goal says."""
    must_fit_form(table.program.form, goal)
    table.reach.number_found(world)
    return goal_sign(goal) in world_signs(table.program, world)


def goal_by_move(table, goal, world, label):
    """Whether the move of a label from a world of a table is as the goal says."""
    must_fit_form(table.program.form, goal)
    told_behind_label(table.followers(world), label)
    return goal_sign(goal) in move_signs(table.reach.following, world, label)
