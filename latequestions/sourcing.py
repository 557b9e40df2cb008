"""From which asking a look takes its answer. An asking is told by a mark, an integer from 0 on."""

from latequestions.books import Book
from latequestions.kinds import is_integer

NO_MARK = -1


def is_look_step(program, thing):
    """Whether any value is the number of a look step."""
    if not is_integer(thing) or not 0 <= thing < len(program.steps):
        return False
    return program.steps[thing].kind in Book.LOOKS


def asks_at_once(book, step):
    """Whether a building asks."""
    return step.way == "now" or book.built == "early"


def asks(program, book, step, has_kept):
    """Whether a look step asks, where the question has kept an answer or not."""
    if step.source in program.settled:
        return False
    return not has_kept or book[step.kind] == "anew"


def answered(program, book, step, mark, new):
    """The mark of the answer that a look step takes, and the mark that the name it is at has behind it.

    Mark is the one that the name has before it, new that of an asking at this step.
    """
    if not asks(program, book, step, mark != NO_MARK):
        return mark, mark
    return new, new if book[step.kind] == "keep" else mark


def marks_behind(program, book, at, marks, new):
    """The mark of the answer that is asked or taken at a step, NO_MARK if none is; and the marks behind the step.

    Marks is a dict from the names of questions and listings. Names that are not bound yet are NO_MARK in it.
    """
    step = program.steps[at]
    behind = dict(marks)
    answer = NO_MARK
    if step.kind == "build":
        answer = new if asks_at_once(book, step) else NO_MARK
        behind[step.name] = answer
    elif step.source != "":
        answer, kept = answered(program, book, step, marks[step.source], new)
        behind[step.source] = kept
        if step.kind == "list" or step.kind == "part":
            behind[step.name] = answer
    return answer, behind


def marked_names(program):
    """The names that have marks, ascending."""
    return sorted([name for name in program.kinds if program.kinds[name] in ("question", "listing")])
