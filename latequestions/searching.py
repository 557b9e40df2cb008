"""Looking for goals in a table of worlds."""

from latequestions.errors import NotAlong
from latequestions.goals import goal_sign, must_fit_form, usual_goals
from latequestions.signs import all_move_signs, move_signs, world_signs
from latequestions.worlds import Worlds


class Search:
    """The table of a program and a list of goals, and which runs reach one of them."""

    def __init__(self, program, here, there, goals, against, most):
        other = program if against is None else against
        if not program.goes_along(other):
            raise NotAlong()
        self.goals = usual_goals(program.form) if goals is None else list(goals)
        for goal in self.goals:
            must_fit_form(program.form, goal)
        self.wanted = {goal_sign(goal): True for goal in self.goals}
        self.table = Worlds(program, here, there, against=other, most=most)

    def are_wanted(self, signs):
        """Whether a goal asks for one of these signs."""
        return any([sign in self.wanted for sign in signs])

    def shortest_run(self):
        """The start and the labels of a run with the fewest labels that reaches a goal, as a pair; None if none does.

        Moves are gone through by ascending distance of the world from which they start.
        """
        reach = self.table.reach
        ends = [self.are_wanted(world_signs(self.table.program, world)) for world in reach.found]
        for start, world in reach.begun:
            if ends[reach.numbers[world]]:
                return start, ()
        for number, world in enumerate(reach.found):
            labels = [label for label, behind in reach.edges[number]]
            signs = all_move_signs(reach.following, world, labels)
            for (label, behind), told in zip(reach.edges[number], signs):
                if ends[behind] or self.are_wanted(told):
                    start, before = reach.way_to(number)
                    return start, (*before, label)
        return None

    def reached_goals(self, start, labels):
        """The goals, in the order of the list, that a run of the table reaches."""
        signs = world_signs(self.table.program, self.table.after(start, labels))
        if len(labels) > 0:
            before = self.table.after(start, labels[:-1])
            signs.extend(move_signs(self.table.reach.following, before, labels[-1]))
        return [goal for goal in self.goals if goal_sign(goal) in signs]
