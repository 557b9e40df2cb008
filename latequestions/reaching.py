"""All worlds, or pairs, that can be reached from the first ones: by breadth, each once, with the shortest ways."""

from latequestions.errors import NoWorld, TooMany
from latequestions.following import MOST_LEVELS, must_be_tuple, told_at_start, told_behind_label
from latequestions.kinds import is_plain

NOWHERE = -1


class Reach:
    """What a Following leads to, numbered from 0 in the order in which it is found.

    For each number: `found` has the world or pair, `origins` the number and the label from which it was found (NOWHERE
    and the start for the first ones), `distances` the least number of labels, `edges` the pairs (label, number) of its
    followers.
    """

    def __init__(self, following, most, what):
        self.following = following
        self.begun = tuple(following.first_told())
        self.most_found = most
        self.what = what
        self.numbers = {}
        self.found = []
        self.origins = []
        self.distances = []
        self.edges = []
        for start, told in self.begun:
            self.number_behind(NOWHERE, start, told)
        at = 0
        while at < len(self.found):
            edges = []
            for label, told in following.next_told(self.found[at]):
                edges.append((label, self.number_behind(at, label, told)))
            self.edges.append(tuple(edges))
            at += 1

    def number_behind(self, before, label, told):
        """The number of what is behind a label; what is new gets one, if there is room for it."""
        if told not in self.numbers:
            if len(self.found) == self.most_found:
                raise TooMany(self.what)
            self.numbers[told] = len(self.found)
            self.found.append(told)
            self.origins.append((before, label))
            self.distances.append(0 if before == NOWHERE else self.distances[before] + 1)
        return self.numbers[told]

    def is_found(self, thing):
        """Whether any value was found."""
        return is_plain(thing, MOST_LEVELS) and thing in self.numbers

    def number_found(self, thing):
        """The number of any value; raises NoWorld if it was not found."""
        if not self.is_found(thing):
            raise NoWorld(thing)
        return self.numbers[thing]

    def followers_found(self, thing):
        """The followers of any value: pairs (label, told) by ascending label; raises NoWorld if it was not found."""
        return [(label, self.found[number]) for label, number in self.edges[self.number_found(thing)]]

    def told_after(self, start, labels):
        """What is behind these labels, both any values; raises BadStart or BadLabel."""
        told = told_at_start(self.begun, start)
        must_be_tuple(labels)
        for label in labels:
            told = told_behind_label(self.followers_found(told), label)
        return told

    def is_whole(self, thing):
        """Whether any value is a tuple of all that was found, in any order, and of nothing else."""
        if not isinstance(thing, tuple) or not all([self.is_found(told) for told in thing]):
            return False
        return len(set(thing)) == len(self.found)

    def way_to(self, number):
        """The start and the labels of a shortest way, as a pair."""
        labels = []
        before, label = self.origins[number]
        while before != NOWHERE:
            labels.append(label)
            before, label = self.origins[before]
        return label, tuple(labels[::-1])
