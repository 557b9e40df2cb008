"""Papers: runs that reach a goal, and closed tables (point 26)."""

import random

from latequestions.books import Book
from latequestions.errors import NoField, NotAlong, TooMany
from latequestions.forms import Form
from latequestions.goals import Goal
from latequestions.judging import judge
from latequestions.papers import is_paper
from latequestions.programs import Program
from latequestions.worlds import Worlds
from support import ODD_VALUES, Case
from test_judging import ELDER, FORM, goals_of
from test_table_runs import random_table
from test_worlds import replaced

USUAL, PLAIN, FRESH = Book.usual(), Book.plain(), Book.fresh()


class RunPapersTest(Case):

    def setUp(self):
        self.labels = ((), ("write", "price", 0), ("go",), (1,), (0,), ())
        self.paper = ("run", (0, 0), self.labels)

    def told(self, thing, *texts, **named):
        goals = goals_of(*texts) if texts else None
        return is_paper(ELDER, USUAL, PLAIN, thing, goals=goals, **named)

    def test_papers(self):
        self.same(self.told(self.paper), True)
        self.same(self.told(self.paper, "differs price"), True)
        self.same(self.told(self.paper, "missing", "differs price end"), True)
        self.same(self.told(("run", (0, 0), self.labels[:-1]), "unsaved stock"), True)

    def test_a_run_need_not_be_a_shortest_one(self):
        longer = ((), ("remove",), ("put", 0, 0), ("write", "stock", 0), ("write", "price", 0), *self.labels[2:])
        self.same(self.told(("run", (0, 0), longer)), True)
        self.same(self.told(("run", (0, 0), longer), "missing"), False)

    def test_only_the_last_world_and_the_last_move_count(self):
        self.same(self.told(self.paper, "unsaved stock"), False)
        self.same(self.told(("run", (0, 0), self.labels[:-1])), False)
        program = Program(["q = all", "others", "len q", "len q"], FORM)
        start, labels = (), ((), ("put", 0, 0), ("go",), ())
        for count, told in ((3, False), (4, True)):
            thing = ("run", start, labels[:count])
            self.same(is_paper(program, USUAL, PLAIN, thing, goals=goals_of("shown")), told)
        self.same(is_paper(program, USUAL, Book(len="anew"), ("run", start, labels), goals=goals_of("shown")), False)

    def test_without_labels(self):
        for start in ((), (0, 0)):
            self.same(self.told(("run", start, ())), False)
            self.same(self.told(("run", start, ()), "differs price", "missing", "extra", "twice", "shown"), False)

    def test_no_goals(self):
        self.same(is_paper(ELDER, USUAL, PLAIN, self.paper, goals=[]), False)

    def test_changed_runs(self):
        for thing in (
                ["run", (0, 0), self.labels], ("run", [0, 0], self.labels), ("run", (0, 0), list(self.labels)),
                ("run", (0, 0), ([], *self.labels[1:])), ("run", (0, False), self.labels), ("run", (0,), self.labels),
                ("run", (0, 0, 0), self.labels), ("run", (), self.labels), ("run", (0, 1), self.labels),
                ("run", (0, 0), self.labels, ()), ("run", (0, 0)), ("run",), ("never", (0, 0), self.labels),
                ("Run", (0, 0), self.labels), (None, (0, 0), self.labels), ("run", None, self.labels),
                ("run", (0, 0), None), ("run", (0, 0), (*self.labels, ())), ("run", (0, 0), self.labels[1:]),
                ("run", (0, 0), ((), ("write", "price", False), *self.labels[2:])),
                ("run", (0, 0), ((), ["write", "price", 0], *self.labels[2:])),
                ("run", (0, 0), ((), ("write", "cost", 0), *self.labels[2:])),
                ("run", (0, 0), (*self.labels[:3], (True,), *self.labels[4:])),
                ("run", (0, 0), (*self.labels[:3], (0,), *self.labels[4:])),
                ("run", (0, 0), (*self.labels[:3], (2,), *self.labels[4:])),
                ("run", (0, 0), (*self.labels[:5], None)), (self.paper,), [self.paper], ("run", self.labels, (0, 0))):
            self.same(self.told(thing), False)

    def test_any_values(self):
        deep = (((((((("run",),),),),),),),)
        for thing in ODD_VALUES + [0, "", "run", "never", deep, ("never", None), ("run", 1, 2), ("run", deep, (deep,))]:
            self.same(self.told(thing), False)
            self.same(is_paper(ELDER, USUAL, USUAL, thing), False)

    def test_against(self):
        program = Program(["q = all", "x = q[?]", "others", "x.stock = ?", "save x"], FORM)
        thing = ("run", (0, 0), ((), (1,), ("write", "price", 0), ("go",), (0,), ()))
        self.same(is_paper(program, USUAL, USUAL, thing), False)
        self.same(is_paper(program, USUAL, USUAL, thing, against=program.turned([4])), True)


class NeverPapersTest(Case):

    def setUp(self):
        self.worlds = tuple(Worlds(ELDER, USUAL, USUAL).worlds())

    def told(self, *thing, **named):
        return is_paper(ELDER, USUAL, USUAL, thing, **named)

    def test_in_any_order_and_more_than_once(self):
        self.same(self.told("never", self.worlds), True)
        self.same(self.told("never", self.worlds[::-1]), True)
        self.same(self.told("never", self.worlds + self.worlds[3:9]), True)
        self.same(self.told("never", self.worlds * 300), True)

    def test_a_world_left_out(self):
        for at in range(len(self.worlds)):
            self.same(self.told("never", self.worlds[:at] + self.worlds[at + 1:]), False)
            # One that is left out is not made up for by another one that stands twice.
            self.same(self.told("never", self.worlds[:at] + self.worlds[at + 1:] + self.worlds[at - 1:at]), False)
        self.same(self.told("never", ()), False)

    def test_something_else(self):
        world = self.worlds[-1]
        others = [thing for thing in (
            replaced(world, 0, False), replaced(world, 0, 7), replaced(world, "q", "r"), list(world), world[1:], None,
            (*world, 0), 0, "never", [], (), Worlds(ELDER, PLAIN, USUAL).worlds()[4], replaced(world, (0, 0), [0, 0]),
        ) if thing not in self.worlds or repr(thing) != repr(world)]
        for thing in others:
            self.same(self.told("never", (*self.worlds, thing)), False)
            self.same(self.told("never", (*self.worlds[:-1], thing)), False)
            self.same(self.told("never", (thing, *self.worlds)), False)

    def test_other_kinds(self):
        worlds = self.worlds
        for thing in (["never", worlds], ("never", list(worlds)), ("never", worlds, ()), ("never",), ("run", worlds),
                      ("never", (worlds,)), ("Never", worlds), (True, worlds), (worlds, "never"), worlds,
                      ("never", {}), ("never", "")):
            self.same(is_paper(ELDER, USUAL, USUAL, thing), False)

    def test_where_a_goal_is_reached(self):
        closed = ("never", tuple(Worlds(ELDER, USUAL, PLAIN).worlds()))
        self.same(is_paper(ELDER, USUAL, PLAIN, closed), False)
        self.same(is_paper(ELDER, USUAL, PLAIN, closed, goals=[]), True)
        self.same(is_paper(ELDER, USUAL, PLAIN, closed, goals=goals_of("gone", "returns", "twice")), True)
        self.same(is_paper(ELDER, USUAL, PLAIN, closed, goals=goals_of("gone", "missing")), False)
        self.same(is_paper(ELDER, USUAL, PLAIN, closed, goals=goals_of("gone", "unsaved stock")), False)

    def test_no_rows(self):
        program = Program([], FORM)
        worlds = tuple(Worlds(program, USUAL, PLAIN).worlds())
        self.same([len(worlds), is_paper(program, USUAL, PLAIN, ("never", worlds))], [2, True])
        self.same(is_paper(program, USUAL, PLAIN, ("run", (), ())), False)


class PapersTest(Case):

    def test_errors_and_their_order(self):
        wrong = goals_of("missing", "differs a")
        other = Program(["q = all"], FORM)
        for thing in (None, ("run", (0, 0), ()), ("never", ())):
            self.fails(NotAlong, {}, is_paper, ELDER, USUAL, PLAIN, thing, goals=wrong, against=other, most=1)
            self.fails(NoField, {"field": "a"}, is_paper, ELDER, USUAL, PLAIN, thing, goals=wrong, most=1)
            self.fails(TooMany, {"what": "worlds"}, is_paper, ELDER, USUAL, PLAIN, thing, most=1)
        count = len(Worlds(ELDER, USUAL, PLAIN))
        self.same(is_paper(ELDER, USUAL, PLAIN, None, most=count), False)
        self.fails(TooMany, {"what": "worlds"}, is_paper, ELDER, USUAL, PLAIN, None, most=count - 1)

    def test_by_name(self):
        told = is_paper(program=ELDER, here=USUAL, there=PLAIN, thing=None, goals=None, against=None, most=3000)
        self.same(told, False)
        with self.assertRaises(TypeError):
            is_paper(ELDER, USUAL, PLAIN, None, [])

    def test_the_papers_of_verdicts(self):
        for seed in range(60):
            made = random_table(seed, 9, 200)
            if made is None:
                continue
            table, program, against, here, there = made
            chance = random.Random(seed)
            kind = chance.choice(Goal.STATES + Goal.MOVES)
            goal = Goal(kind, program.form.fields[0] if kind in Goal.FIELDED else "")
            for goals in (None, [goal]):
                paper = judge(program, here, there, goals=goals, against=against).paper
                self.same(is_paper(program, here, there, paper, goals=goals, against=against), True)
                self.same(is_paper(program, here, there, changed(chance, paper), goals=goals, against=against), False)


def changed(chance, paper):
    """A paper with one world less, or with a start or label that is none."""
    if paper[0] == "never":
        at = chance.randrange(len(paper[1]))
        return "never", paper[1][:at] + paper[1][at + 1:]
    at = chance.randrange(len(paper[2]))
    return chance.choice([("run", (9,), paper[2]), ("run", paper[1], (*paper[2][:at], ("no",), *paper[2][at + 1:]))])
