"""The table of all worlds of a program under two books."""

from latequestions.errors import NotAlong
from latequestions.following import Following
from latequestions.reaching import Reach

MOST_WORLDS = 3000


class Worlds:
    """The worlds that can be reached from the first ones, with their followers and distances."""

    def __init__(self, program, here, there, *, against=None, most=MOST_WORLDS):
        other = program if against is None else against
        if not program.goes_along(other):
            raise NotAlong()
        self.program = program
        self.reach = Reach(Following(program, here, other, there), most, "worlds")

    def __len__(self):
        return len(self.reach.found)

    def __contains__(self, x):
        return self.reach.is_found(x)

    def firsts(self):
        """Pairs (start, world), the start without the row first, then the looks, ascending."""
        yield from self.reach.begun

    def worlds(self):
        """All worlds, the first ones first, then by breadth."""
        return list(self.reach.found)

    def followers(self, world):
        """Pairs (label, world), by ascending label."""
        return self.reach.followers_found(world)

    def distance(self, world):
        """The least number of labels from a first world."""
        return self.reach.distances[self.reach.number_found(world)]

    def after(self, start, labels):
        """The world behind these labels."""
        return self.reach.told_after(start, labels)
