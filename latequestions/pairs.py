"""Two programs side by side: whether they are alike, or a run in which they part."""

from latequestions.errors import BadLabel, BadStart, OtherForm
from latequestions.making import KEY, Making
from latequestions.pairing import Pairing, mark_at
from latequestions.reaching import Reach
from latequestions.realising import must_be_few, real_of
from latequestions.worlds import MOST_WORLDS


class Comparison:
    """All pairs of two programs, and a shortest run to a pair that parts, if there is one."""

    def __init__(self, pairing, most):
        self.reach = Reach(pairing, most, "pairs")
        self.partings = [pairing.parting(pair) for pair in self.reach.found]
        numbers = [number for number, how in enumerate(self.partings) if how != ""]
        if len(numbers) == 0:
            self.paper = ("alike", tuple(self.reach.found))
            self.counted = self.paper[1]
        else:
            # Pairs are found by ascending number of labels, so the first one that parts has the fewest.
            start, labels = self.reach.way_to(numbers[0])
            self.paper = ("part", start, labels, self.partings[numbers[0]])
            self.counted = labels

    def __bool__(self):
        return bool(self.paper[0] == "alike")

    def __len__(self):
        return len(self.counted)

    def beginnings(self):
        """Pairs (start, first pair), the start without the row first, then the looks, ascending."""
        return list(self.reach.begun)

    def followers(self, pair):
        """Pairs (label, pair), by ascending label."""
        return self.reach.followers_found(pair)

    def parted(self, pair):
        """How a pair parts, an empty string if it does not."""
        return self.partings[self.reach.number_found(pair)]

    def realised(self):
        """The run of the paper made real, None if the programs are alike."""
        if self.paper[0] == "alike":
            return None
        word, start, labels, how = self.paper
        must_be_few(labels)
        pairing = self.reach.following
        making = Making(pairing.programs, pairing.books, start)
        making.pass_silent_steps()
        for label in labels:
            making.take(label)
            making.pass_silent_steps()
        if all([mark_at(program, at) == "has" for program, at in zip(making.programs, making.ats)]):
            making.choices.append(KEY)
        return real_of(making)


def compare(one, here, other, there, *, most=MOST_WORLDS):
    """The comparison of a program under one book with another program of the same form under another book."""
    if not one.form == other.form:
        raise OtherForm()
    return Comparison(Pairing(one, here, other, there), most)


def is_comparison(one, here, other, there, thing, *, most=MOST_WORLDS):
    """Whether any value is a paper for these programs and books."""
    comparison = compare(one, here, other, there, most=most)
    if not isinstance(thing, tuple) or len(thing) < 2:
        return False
    if thing[0] == "alike" and len(thing) == 2:
        return comparison.reach.is_whole(thing[1]) and comparison.paper[0] == "alike"
    if thing[0] == "part" and len(thing) == 4:
        return is_parting(comparison, thing[1], thing[2], thing[3])
    return False


def is_parting(comparison, start, labels, how):
    """Whether behind the labels of a start, any values, comes a pair that parts as any value says."""
    try:
        pair = comparison.reach.told_after(start, labels)
    except (BadStart, BadLabel):
        return False
    return how != "" and comparison.parted(pair) == how
