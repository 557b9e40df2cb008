"""Following one name through the ways of a program: from which steps its answer may come.

A track is a triple (next step, name, mark); the mark is the step at which the answer that the name keeps was asked, or
NO_MARK. The empty name stands for a way on which nothing is followed yet. What happens to one name depends on no other
name, except where its answer is handed on to a listing: then the listing is followed from there on.
"""

from latequestions.sourcing import NO_MARK, answered, asks_at_once


def least_ways(program, book):
    """A dict from all tracks to the shortest ways to them; of equally short ones to the least."""
    known = {}
    layer = {(0, "", NO_MARK): ()}
    while len(layer) > 0:
        for track in list(layer):
            known[track] = layer[track]
        layer = layer_behind(program, book, layer, known)
    return known


def layer_behind(program, book, layer, known):
    """The tracks one step behind those of a layer that are not known yet, as a dict to the least ways to them."""
    ahead = {}
    for track in layer:
        way = (*layer[track], track[0])
        for behind in tracks_behind(program, book, track):
            if behind not in known and (behind not in ahead or way < ahead[behind]):
                ahead[behind] = way
    return ahead


def tracks_behind(program, book, track):
    """The tracks behind the next step of a track."""
    at, name, mark = track
    if at == len(program.steps):
        return []
    step = program.steps[at]
    followed = followed_behind(program, book, at, name, mark)
    return [(then, other, behind) for then in step.then for other, behind in followed]


def followed_behind(program, book, at, name, mark):
    """The names that may be followed behind a step, with their marks."""
    step = program.steps[at]
    if name == "":
        followed = [("", NO_MARK)]
        if step.kind == "build":
            followed.append((step.name, at if asks_at_once(book, step) else NO_MARK))
        return followed
    if step.source != name:
        return [(name, mark)] if step.name != name else []
    answer, kept = answered(program, book, step, mark, at)
    followed = [(name, kept)] if step.name != name else []
    if step.kind == "list" or step.kind == "part":
        followed.append((step.name, answer))
    return followed


def track_source(program, book, track):
    """The step at which the answer was asked that the next step, a look step, takes; NO_MARK if the track does not
    follow the name that it is at."""
    at, name, mark = track
    if program.steps[at].source != name:
        return NO_MARK
    answer, kept = answered(program, book, program.steps[at], mark, at)
    return answer
