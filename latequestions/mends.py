"""Mends: sets of rows of a program, and those that must be turned."""

from latequestions.askings import Askings
from latequestions.errors import NoTurn, TooMany
from latequestions.judging import judge
from latequestions.kinds import is_integer
from latequestions.worlds import MOST_WORLDS

MOST_CANDIDATES = 5


class Mend:
    """A set of rows, told by their indexes."""

    def __init__(self, *rows):
        self.rows = ordered(rows)

    def __len__(self):
        return len(self.rows)

    def __bool__(self):
        return bool(self.rows)

    def __contains__(self, x):
        return is_integer(x) and x in self.rows

    def __or__(self, other):
        rows = self.rows + other.rows
        return Mend(*rows)

    def __and__(self, other):
        rows = [row for row in self.rows if row in other.rows]
        return Mend(*rows)

    def __ior__(self, other):
        self.rows = ordered(self.rows + other.rows)
        return self

    def __eq__(self, other):
        return isinstance(other, Mend) and self.rows == other.rows

    def __str__(self):
        if self.rows == ():
            return "no rows"
        return f"rows {rows_text(self.rows)}"


def ordered(rows):
    """Rows as a tuple, ascending, each once."""
    return tuple(sorted(set(rows)))


def rows_text(rows):
    return ", ".join([str(row) for row in rows])


def judge_mended(program, here, there, mend, *, goals=None, most=MOST_WORLDS):
    """The verdict on the program with the rows of a mend turned, against the program itself under the book there."""
    return judge(program.turned(mend.rows), here, there, goals=goals, against=program, most=most)


class Mends:
    """All mends out of some rows of a program, and their verdicts."""

    def __init__(self, program, here, there, rows, *, goals=None, most=500):
        # Turning all rows raises NoTurn for the first one that cannot be turned, whatever value it is.
        program.turned(rows)
        candidates = ordered(rows)
        if len(candidates) > MOST_CANDIDATES:
            raise TooMany("candidates")
        self.program = program
        self.here = here
        self.candidates = candidates
        self.verdicts = {}
        for chosen in all_choices(candidates):
            self.verdicts[chosen] = judge_mended(program, here, there, Mend(*chosen), goals=goals, most=most)
        self.good = [turned for turned in self.verdicts if self.verdicts[turned]]

    def __len__(self):
        return len(self.good)

    def least(self):
        """The good mends out of whose rows no other good mend can be made, by ascending len, then rows."""
        least = [rows for rows in self.good if not any([is_less(other, rows) for other in self.good])]
        return [Mend(*rows) for rows in least]

    def fewest(self):
        """The good mends with the fewest rows."""
        return [mend for mend in self.least() if len(mend) == len(self.good[0])]

    def verdict(self, mend):
        """The verdict of a mend out of the candidates."""
        self.must_be_candidates(mend)
        return self.verdicts[mend.rows]

    def askings(self, mend):
        """The askings, under the book here, of the program with the rows of a mend turned."""
        self.must_be_candidates(mend)
        return Askings(self.program.turned(mend.rows), self.here)

    def must_be_candidates(self, mend):
        for row in mend.rows:
            if row not in self.candidates:
                raise NoTurn(row)


def all_choices(candidates):
    """All tuples of some of the candidates, ascending, by ascending number, then by their rows."""
    choices = [()]
    for row in candidates:
        choices = choices + [(*chosen, row) for chosen in choices]
    return sorted(choices, key=lambda chosen: (len(chosen), chosen))


def is_less(rows, others):
    """Whether the rows are among the others, but not all of them."""
    return len(rows) < len(others) and all([row in others for row in rows])
