"""The table of all worlds of a program under two books."""

from latequestions.errors import BadLabel, BadStart, NotAlong, NoWorld, TooMany
from latequestions.following import Following
from latequestions.kinds import is_plain

MOST_WORLDS = 3000
# A world has five levels of tuples, a label one: what is deeper is none.
MOST_LEVELS = 5


class Worlds:
    """The worlds that can be reached from the first ones, with their followers and distances."""

    def __init__(self, program, here, there, *, against=None, most=MOST_WORLDS):
        other = program if against is None else against
        if not program.goes_along(other):
            raise NotAlong()
        self.following = Following(program, here, other, there)
        self.begun = tuple(self.following.first_worlds())
        self.distances = {}
        self.found = []
        for start, world in self.begun:
            self.note(world, 0, most)
        at = 0
        while at < len(self.found):
            world = self.found[at]
            for label, behind in self.following.next_worlds(world):
                self.note(behind, self.distances[world] + 1, most)
            at += 1

    def note(self, world, distance, most):
        """Takes a world into the table if it is new; raises TooMany if there is no place for it."""
        if world in self.distances:
            return
        if len(self.found) == most:
            raise TooMany("worlds")
        self.distances[world] = distance
        self.found.append(world)

    def __len__(self):
        return len(self.found)

    def __contains__(self, x):
        return is_plain(x, MOST_LEVELS) and x in self.distances

    def firsts(self):
        """Pairs (start, world), the start without the row first, then the looks, ascending."""
        yield from self.begun

    def worlds(self):
        """All worlds, the first ones first, then by breadth."""
        return list(self.found)

    def followers(self, world):
        """Pairs (label, world), by ascending label."""
        if world not in self:
            raise NoWorld(world)
        return self.following.next_worlds(world)

    def distance(self, world):
        """The least number of labels from a first world."""
        if world not in self:
            raise NoWorld(world)
        return self.distances[world]

    def after(self, start, labels):
        """The world behind these labels."""
        begun = [world for first, world in self.begun if is_plain(start, MOST_LEVELS) and first == start]
        if len(begun) == 0:
            raise BadStart(start)
        if not isinstance(labels, tuple):
            raise BadLabel(labels)
        world = begun[0]
        for label in labels:
            behind = [then for known, then in self.followers(world) if is_plain(label, MOST_LEVELS) and known == label]
            if len(behind) == 0:
                raise BadLabel(label)
            world = behind[0]
        return world
