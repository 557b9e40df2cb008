"""Which looks take their answer from one and the same asking, and how many askings there are.

States are pairs (next step, marks): the marks of all names that have some, numbered so that equal ones stay equal.
"""

from latequestions.sourcing import NO_MARK, marked_names, marks_behind


def standings(program, book, one):
    """A dict from the steps that are done behind the look step one in some run: whether the look steps stand with it.

    The first mark of a state is that of the answer which one took when it was done the last time.
    """
    names = marked_names(program)
    first = (0, (NO_MARK, *[NO_MARK for name in names]))
    seen = {first: True}
    ahead = [first]
    stands = {}
    while len(ahead) > 0:
        at, (last, *marks) = ahead.pop()
        if at == len(program.steps):
            continue
        answer, behind = marks_behind(program, book, at, dict(zip(names, marks)), len(names) + 1)
        if last != NO_MARK:
            stands[at] = stands.get(at, True) and answer == last
        if at == one:
            last = answer
        numbered = renumbered([last, *[behind[name] for name in names]])
        for then in program.steps[at].then:
            if (then, numbered) not in seen:
                seen[then, numbered] = True
                ahead.append((then, numbered))
    return stands


def renumbered(marks):
    """The marks with the least numbers, in the order in which they stand; those that are NO_MARK stay."""
    numbers = {}
    for mark in marks:
        if mark != NO_MARK and mark not in numbers:
            numbers[mark] = len(numbers)
    return tuple([NO_MARK if mark == NO_MARK else numbers[mark] for mark in marks])


def asking_edges(program, book):
    """A dict from all states to lists of pairs (askings of the next step, state behind it).

    Of a question the state tells only whether it has kept an answer, of a listing nothing: its looks do not ask.
    """
    names = marked_names(program)
    first = first_state(program)
    edges = {}
    ahead = [first]
    while len(ahead) > 0:
        state = ahead.pop()
        if state in edges:
            continue
        at, marks = state
        edges[state] = []
        if at < len(program.steps):
            answer, behind = marks_behind(program, book, at, dict(zip(names, marks)), 1)
            asked = 1 if answer == 1 else 0
            kept = tuple([kept_mark(program, name, behind[name]) for name in names])
            edges[state] = [(asked, (then, kept)) for then in program.steps[at].then]
        ahead.extend([state_behind for asked, state_behind in edges[state]])
    return edges


def first_state(program):
    """The state before the first step."""
    return (0, tuple([NO_MARK for name in marked_names(program)]))


def kept_mark(program, name, mark):
    """0 for a question that has kept an answer, otherwise NO_MARK."""
    return 0 if mark != NO_MARK and program.kinds[name] == "question" else NO_MARK
