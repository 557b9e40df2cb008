"""Goals are as real runs are: programs with the worlds and the moves of their tables (points 24 and 25)."""

import random

from latequestions.books import Book
from latequestions.forms import Form
from latequestions.goals import Goal, goal_by_move, goal_of
from latequestions.programs import Program
from latequestions.worlds import Worlds
from noticed import Noticing, all_goals, noticed_state
from support import Case
from test_table_runs import random_table
from twinned import Play

DEEDS = {"build": 1, "bind": 3, "look": 1, "value": 6, "show": 2, "save": 6, "update": 1, "others": 3, "block": 2}

# Programs that reach all goals together; each with its form.
CHOSEN = (
    ("a b", "q = all", "others", "x = q[?]", "x.a = ?", "save x"),
    ("a b", "q = all", "others", "x = q[?]", "x.b = ?", "save x"),
    ("a b", "q = all", "x = q[?]", "x.a = ?", "others", "save x", "show x.b"),
    ("a b", "q = all", "x = q[?]", "x.b += ?", "others", "save x by b", "x.b = ?", "fresh show x.b"),
    ("a:f b", "q = f", "others", "x = q[?]", "delete x", "has q[?]", "reread x"),
    ("a b", "q = all", "repeat", "x = q[?]", "x.a = ?", "x.b = ?", "end"),
    ("a:f", "q = f", "xs = list q", "for w in xs", "w.a = ?", "save w touched", "fresh w.a += ?", "end"),
    ("a", "q = all", "others", "x = q[?]", "fresh x.a += ?", "others", "save x touched", "count q"),
    ("a b", "repeat", "q = all", "any q", "for w in q", "w.b = ?", "end", "end"),
    ("a:f b", "q = f", "xs = q[?:?]", "x = xs[?]", "x.a = ?", "xs = q[?:?]", "x = xs[?]", "update q.b += ?", "truth q"),
)


class MovesTest(Case):

    def setUp(self):
        self.met = {}

    def test_chosen_programs(self):
        for text, *rows in CHOSEN:
            form = Form.read(text)
            program = Program(rows, form)
            for here, there in ((Book.usual(), Book.plain()), (Book.plain(), Book.usual())):
                self.follow(random.Random(1), 60, Worlds(program, here, there), program, program, here, there)
        # Each goal was met, so that none is compared only where it is not reached.
        self.assertEqual([text for text in all_goals(Form.read("a b")) if text not in self.met], [])

    def test_random_programs(self):
        for seed in range(120):
            begin = ["q = all", "x = q[?]"] if seed % 2 else []
            made = random_table(seed, 9, 1000, DEEDS, begin)
            if made is not None:
                with self.subTest(seed):
                    self.follow(random.Random(seed), 15, *made)

    def follow(self, chance, most, table, *programs_and_books):
        program = programs_and_books[0]
        goals = [Goal.read(text) for text in all_goals(program.form)]
        ways = {world: (start, ()) for start, world in table.firsts()}
        worlds = table.worlds()
        for world in worlds:
            for label, behind in table.followers(world):
                ways.setdefault(behind, (ways[world][0], (*ways[world][1], label)))
        for world in chance.sample(worlds, min(len(worlds), most)):
            start, labels = ways[world]
            self.check_state(table, goals, world, Play(*programs_and_books, start, labels))
            for label, behind in table.followers(world):
                told = [str(goal) for goal in goals if goal_by_move(table, goal, world, label)]
                if program.steps[world[0]].kind in ("pick", "others"):
                    self.same(told, [])
                    continue
                noticed = Noticing(*programs_and_books, start, (*labels, label)).moves
                self.same(sorted(told), sorted(set(noticed)))
                self.note(told)

    def check_state(self, table, goals, world, play):
        """In the middle of an `others` the real runs have not done the deeds yet, so nothing is compared there."""
        if play.worlds()[-1] != world:
            return
        told = [str(goal) for goal in goals if goal_of(table, goal, world)]
        self.same(sorted(told), sorted(noticed_state(play.twins)))
        self.note(told)

    def note(self, texts):
        for text in texts:
            self.met[text] = self.met.get(text, 0) + 1
