"""An oracle for the tests of askings: each way is really done on a store, and the askings are told by their objects."""

from latequestions.askings import ways
from latequestions.runs import Outside, Run
from latequestions.stores import Store


def picks_of(program, way):
    """Picks that lead along a way."""
    return [program.steps[at].then.index(then) for at, then in zip(way, way[1:]) if program.steps[at].kind == "pick"]


def done_way(program, book, way):
    """For each step of a way the pair (whether it asked, the place in the way of the asking that it took), None for
    no look. All conditions must take the one row."""
    store = Store(program.form, {1: {field: 0 for field in program.form.fields}}, {}, book=book)
    run = Run(program, store, Outside(picks_of(program, way), [1] * len(way), [(1, 2)] * len(way)))
    seen, told = [], []
    for place, at in enumerate(way):
        assert run.at == at
        if program.steps[at].kind == "pick" and place == len(way) - 1:
            told.append((False, None))
            continue
        source = program.steps[at].source
        before = run.objects(source) if source else []
        asked = store.asked
        run.step()
        is_asking = store.asked > asked
        taken = None
        if source:
            taken = place if is_asking else [where for where, thing in seen if thing is before[0]][0]
        told.append((is_asking, taken))
        for name in run.bound:
            for thing in run.objects(name):
                if not [where for where, one in seen if one is thing]:
                    seen.append((place, thing))
    return told


class Brute:
    """What Askings tells, found by doing all ways with at most so many steps."""

    def __init__(self, program, book, most):
        self.program = program
        self.sources = {}
        self.stands = {}
        self.counts = []
        self.asked = {}
        for way in ways(program, most):
            told = done_way(program, book, way)
            self.asked[way] = sum(asks for asks, taken in told)
            if not program.steps or (way and len(program.steps) in program.steps[way[-1]].then):
                self.counts.append(self.asked[way])
            self.note(way, told)

    def note(self, way, told):
        last = len(way) - 1
        if last < 0 or told[last][1] is None:
            return
        source = way[told[last][1]]
        known = self.sources.setdefault(way[-1], {})
        known[source] = min(known.get(source, way), way, key=lambda one: (len(one), one))
        befores = {at: told[place][1] for place, at in enumerate(way[:-1]) if told[place][1] is not None}
        for one, taken in befores.items():
            pair = (way[-1], one)
            self.stands[pair] = self.stands.get(pair, True) and taken == told[last][1]
