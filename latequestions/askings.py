"""The askings of a program under a book, for all of its runs."""

from latequestions.errors import BadPick, NoLook
from latequestions.graphs import greatest_cost, least_cost
from latequestions.kinds import is_integer
from latequestions.sourcing import NO_MARK, is_look_step, marked_names, marks_behind
from latequestions.standing import asking_edges, first_state, standings
from latequestions.tracks import least_ways, track_source


class Askings:
    """Which steps ask, and from which askings looks take their answers."""

    def __init__(self, program, book):
        self.program = program
        self.going_by = book
        self.track_ways = least_ways(program, book)
        self.stood = {}

    def sources(self, step):
        """The steps at which the asking may be from which a look step takes its answer, ascending."""
        self.must_be_look(step)
        return tuple(sorted(set([source for source, way in self.source_ways(step)])))

    def shortest_way(self, step, source):
        """The shortest way to a look step that takes its answer from an asking at the step source."""
        self.must_be_look(step)
        found = [way for start, way in self.source_ways(step) if is_integer(source) and start == source]
        if len(found) == 0:
            raise NoLook(source)
        return min(found, key=lambda one: (len(one), one))

    def source_ways(self, step):
        """Pairs of a source of a look step and a way to it."""
        tracks = [track for track in self.track_ways if track[0] == step]
        pairs = [(track_source(self.program, self.going_by, track), track) for track in tracks]
        return [(source, (*self.track_ways[track], step)) for source, track in pairs if source != NO_MARK]

    def stands_with(self, other, one):
        """Whether the look step other takes its answer from the asking of one; None if no run does one before it."""
        self.must_be_look(other)
        self.must_be_look(one)
        if one not in self.stood:
            self.stood[one] = standings(self.program, self.going_by, one)
        return self.stood[one].get(other)

    def must_be_look(self, step):
        if not is_look_step(self.program, step):
            raise NoLook(step)

    def least(self):
        """The least number of askings of a complete way."""
        return least_cost(asking_edges(self.program, self.going_by), first_state(self.program))

    def most(self):
        """The greatest number of askings of a complete way, None if there is none."""
        return greatest_cost(asking_edges(self.program, self.going_by), first_state(self.program))

    def way_asked(self, way):
        """The number of askings in a way."""
        must_be_way(self.program, way)
        marks = {name: NO_MARK for name in marked_names(self.program)}
        asked = 0
        for place, at in enumerate(way):
            answer, marks = marks_behind(self.program, self.going_by, at, marks, place)
            if answer == place:
                asked += 1
        return asked


def must_be_way(program, way):
    """Raises BadPick with the index of the first thing in a list or tuple that is not a step that may come there."""
    before = ()
    for place, thing in enumerate(way):
        if not is_integer(thing) or thing not in steps_behind(program, before):
            raise BadPick(place)
        before = (thing,)


def steps_behind(program, way):
    """The numbers of the steps that may come next behind a way, ascending, each once."""
    then = (0,) if way == () else program.steps[way[-1]].then
    return [step for step in sorted(set(then)) if step < len(program.steps)]


def ways(program, most):
    """All ways with at most so many steps, shorter ones first, those of one length ascending."""
    layer = [()]
    yield from layer
    for length in range(most):
        layer = [(*way, step) for way in layer for step in steps_behind(program, way)]
        yield from layer
