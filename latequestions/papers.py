"""Papers: what shows that a run reaches a goal, or that none does."""

from latequestions.errors import BadLabel, BadStart
from latequestions.searching import Search
from latequestions.worlds import MOST_WORLDS


def is_paper(program, here, there, thing, *, goals=None, against=None, most=MOST_WORLDS):
    """Whether any value is a paper for these goals, by default for the usual ones."""
    search = Search(program, here, there, goals, against, most)
    if not isinstance(thing, tuple) or len(thing) < 2:
        return False
    if thing[0] == "run" and len(thing) == 3:
        return is_run(search, thing[1], thing[2])
    if thing[0] == "never" and len(thing) == 2:
        return search.table.reach.is_whole(thing[1]) and search.shortest_run() is None
    return False


def is_run(search, start, labels):
    """Whether any values are the start and the labels of a run that reaches a goal."""
    try:
        return len(search.reached_goals(start, labels)) > 0
    except (BadStart, BadLabel):
        return False
