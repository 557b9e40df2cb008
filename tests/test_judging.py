"""Verdicts: a run with the fewest labels that reaches a goal, or a closed table (points 3, 26 and 27)."""

import random

from latequestions.books import Book
from latequestions.errors import NoField, NotAlong, TooMany
from latequestions.forms import Form
from latequestions.goals import Goal, goal_by_move, goal_of, usual_goals
from latequestions.judging import Parts, Same, Verdict, judge, label_line
from latequestions.papers import is_paper
from latequestions.programs import Program
from latequestions.worlds import Worlds
from noticed import all_goals
from support import Case
from test_table_runs import random_table

USUAL, PLAIN, FRESH = Book.usual(), Book.plain(), Book.fresh()
FORM = Form.read("price stock")
ELDER = Program(["q = all", "others", "x = q[?]", "x.stock = ?", "save x"], FORM)


def goals_of(*texts):
    return [Goal.read(text) for text in texts]


class SameTest(Case):

    def test_a_verdict(self):
        verdict = judge(ELDER, USUAL, USUAL)
        self.assertIs(type(verdict), Same)
        self.assertIsInstance(verdict, Verdict)
        self.assertIs(verdict.program, ELDER)
        self.assertEqual([verdict.here, verdict.there], [USUAL, USUAL])
        self.same(bool(verdict), True)
        table = Worlds(ELDER, USUAL, USUAL)
        self.same(len(verdict), len(table))
        self.same(verdict.paper, ("never", tuple(table.worlds())))
        self.same(verdict.told(), [str(USUAL), str(USUAL), f"same in {len(table)} worlds"])

    def test_a_program_without_rows(self):
        for text, count in (("a", 2), ("a:f,g b", 5)):
            for goals in (None, [], goals_of("differs a", "missing", "extra", "unsaved a", "twice", "shown", "gone")):
                verdict = judge(Program([], Form.read(text)), USUAL, FRESH, goals=goals)
                self.same([bool(verdict), len(verdict), len(verdict.paper[1])], [True, count, count])
                self.same(verdict.told(), [str(USUAL), str(FRESH), f"same in {count} worlds"])

    def test_no_goals_at_all(self):
        verdict = judge(ELDER, USUAL, PLAIN, goals=[])
        self.same([bool(verdict), len(verdict)], [True, len(Worlds(ELDER, USUAL, PLAIN))])

    def test_equal_to_itself_only(self):
        one, other = judge(ELDER, USUAL, USUAL), judge(ELDER, USUAL, USUAL)
        self.assertTrue(one == one)
        self.assertFalse(one == other)

    def test_what_is_told_is_new(self):
        for verdict in (judge(ELDER, USUAL, USUAL), judge(ELDER, USUAL, PLAIN)):
            before = verdict.told()
            verdict.told().clear()
            self.same(verdict.told(), before)


class PartsTest(Case):

    def test_the_first_example(self):
        verdict = judge(ELDER, USUAL, PLAIN)
        self.same([bool(verdict), len(verdict)], [False, 6])
        self.assertIs(type(verdict), Parts)
        self.assertIsInstance(verdict, Verdict)
        self.assertIs(verdict.program, ELDER)
        self.assertEqual([verdict.here, verdict.there], [USUAL, PLAIN])
        word, start, labels = verdict.paper
        self.same([word, len(labels), type(labels)], ["run", 6, tuple])
        self.same(is_paper(ELDER, USUAL, PLAIN, verdict.paper), True)

    def test_told(self):
        verdict = judge(ELDER, USUAL, PLAIN, goals=goals_of("differs price end"))
        # Others write the price, alone or with the stock, and the elder one is written back there.
        word, start, labels = verdict.paper
        deed = labels[1]
        self.assertIn(deed, [("write", "price", 0), ("put", 0, 0)])
        self.same(verdict.paper, ("run", (0, 0), ((), deed, ("go",), (1,), (0,), ())))
        self.same(verdict.told(), [
            str(USUAL), str(PLAIN), "starts with 0 0",
            "  0 -                q = all",
            "  1 put,0,0          others" if deed[0] == "put" else "  1 write,price,0    others",
            "  1 go               others",
            "  2 1                x = q[?]",
            "  3 0                x.stock = ?",
            "  4 -                save x",
            "reaches differs price end",
        ])

    def test_told_of_a_start_without_the_row(self):
        program = Program(["q=f", "others", "len   q"], Form.read("a:f"))
        verdict = judge(program, USUAL, PLAIN, goals=goals_of("twice", "shown"))
        self.same(verdict.paper, ("run", (), ((), ("put", 1), ("go",), ())))
        self.same(verdict.told()[2:], [
            "starts with nothing", "  0 -                q = f", "  1 put,1            others",
            "  1 go               others", "  2 -                len q", "reaches shown",
        ])

    def test_told_with_long_labels(self):
        program = Program(["others"], Form.read("quantity:f,g,h"))
        self.same(label_line(program, 0, ("write", "quantity", 7)), "  0 write,quantity,7 others")
        self.same(label_line(program, 0, ("write", "quantity", 77)), "  0 write,quantity,77 others")
        self.same(label_line(program, 0, ()), "  0 -                others")

    def test_told_of_two_masks(self):
        program = Program(["q = f", "others", "x = q[?]", "x.a += ?", "save x"], Form.read("a:f,g"))
        verdict = judge(program, USUAL, PLAIN, goals=goals_of("differs a end"))
        lines = verdict.told()[2:-1]
        start, labels = verdict.paper[1:]
        self.same(lines[0], f"starts with {start[0]}" if start else "starts with nothing")
        parts = [",".join([str(part) for part in label]) if label else "-" for label in labels]
        ats = (0, 1, 1, 2, 3, 4)
        self.same(lines[1:], [f"{at:3d} {text.ljust(16)} {program.rows[at]}" for at, text in zip(ats, parts)])

    def test_told_at_a_tenth_step(self):
        rows = ["q = all", *["count q"] * 9, "others", "show x.a"]
        rows.insert(9, "x = q[?]")
        verdict = judge(Program(rows, Form.read("a")), USUAL, USUAL, goals=goals_of("gone", "twice"))
        self.same(bool(verdict), True)
        rows = ["q = all", *["count q"] * 9, "x = q[?]", "y = q[?]"]
        verdict = judge(Program(rows, Form.read("a")), USUAL, USUAL, goals=goals_of("gone", "twice end"))
        self.same(verdict.told()[-3:], [" 10 1                x = q[?]", " 11 1                y = q[?]",
                                        "reaches twice end"])

    def test_the_row_of_an_end(self):
        program = Program(["q = all", "for w in q", "w.a = ?", "end"], Form.read("a"))
        verdict = judge(program, Book(walk="ask"), USUAL, goals=goals_of("dropped a"))
        self.same(verdict.told()[2:], [
            "starts with 0", "  0 -                q = all", "  1 -                for w in q",
            "  2 0                w.a = ?", "  3 -                end", "reaches dropped a",
        ])

    def test_the_first_goal_that_the_run_reaches(self):
        # One save, behind a deed: its world and its move are as several goals say.
        program = Program(["q = all", "others", "x = q[?]", "x.stock = ?", "save x"], FORM)
        for texts in (["elder price", "differs price end", "differs price"], ["differs price", "differs price end"],
                      ["twice", "differs price end", "elder price"], ["gone", "extra", "elder price", "differs price"]):
            verdict = judge(program, PLAIN, USUAL, goals=goals_of(*texts))
            known = [text for text in texts if text not in ("twice", "gone", "extra")]
            self.same([len(verdict), verdict.told()[-1]], [6, f"reaches {known[0]}"])
        # A goal that is reached sooner comes before those that stand before it in the list.
        verdict = judge(program, PLAIN, USUAL, goals=goals_of("elder price", "unsaved stock"))
        self.same([len(verdict), verdict.told()[-1]], [4, "reaches unsaved stock"])

    def test_states_and_moves_of_one_length(self):
        program = Program(["q = all", "others", "x = q[?]", "show x.price"], FORM)
        for texts, told in ((["shown", "differs price end"], "shown"), (["twice", "shown"], "shown")):
            verdict = judge(program, USUAL, PLAIN, goals=goals_of(*texts))
            self.same(verdict.told()[-1], f"reaches {told}")

    def test_goals_are_copied(self):
        goals = goals_of("shown")
        program = Program(["q = all", "others", "len q"], FORM)
        verdict = judge(program, USUAL, PLAIN, goals=goals)
        goals.clear()
        self.same(verdict.told()[-1], "reaches shown")

    def test_against(self):
        program = Program(["q = all", "x = q[?]", "x.stock = ?", "others", "save x"], FORM)
        turned = program.turned([4])
        self.same(bool(judge(program, USUAL, USUAL, against=program)), True)
        verdict = judge(program, USUAL, USUAL, against=turned)
        # The elder price is written back here.
        self.same([bool(verdict), verdict.told()[-2:]],
                  [False, ["  4 -                save x", "reaches differs price end"]])
        self.assertIs(verdict.program, program)
        verdict = judge(turned, USUAL, USUAL, against=program)
        self.same([bool(verdict), verdict.told()[-2]], [False, "  4 -                save x touched"])


class ErrorsTest(Case):

    def test_order(self):
        other = Program(["q = all"], FORM)
        wrong = goals_of("missing", "differs a", "elder b")
        self.fails(NotAlong, {}, judge, ELDER, USUAL, PLAIN, goals=wrong, against=other, most=1)
        self.fails(NotAlong, {}, judge, ELDER, USUAL, PLAIN, against=Program([], FORM))
        self.fails(NoField, {"field": "a"}, judge, ELDER, USUAL, PLAIN, goals=wrong, most=1)
        self.fails(NoField, {"field": "b"}, judge, ELDER, USUAL, PLAIN, goals=wrong[::-1], against=ELDER, most=1)
        self.fails(TooMany, {"what": "worlds"}, judge, ELDER, USUAL, PLAIN, most=1)
        self.fails(TooMany, {"what": "worlds"}, judge, ELDER, USUAL, PLAIN, goals=[], most=1)

    def test_too_many_also_if_a_goal_is_near(self):
        count = len(Worlds(ELDER, USUAL, PLAIN))
        for goals in (None, [], goals_of("unsaved stock")):
            self.same(len(judge(ELDER, USUAL, PLAIN, goals=goals, most=count)) > 0, True)
            self.fails(TooMany, {"what": "worlds"}, judge, ELDER, USUAL, PLAIN, goals=goals, most=count - 1)

    def test_by_name(self):
        verdict = judge(program=ELDER, here=USUAL, there=PLAIN, goals=None, against=None, most=3000)
        self.same(len(verdict), 6)
        with self.assertRaises(TypeError):
            judge(ELDER, USUAL, PLAIN, [])


class ShortestTest(Case):

    def test_random_programs(self):
        """For each goal alone, and for some goals together, no run with fewer labels reaches one of them."""
        for seed in range(60):
            made = random_table(seed, 9, 250, begin=["q = all", "x = q[?]"] if seed % 2 else [])
            if made is None:
                continue
            table, program, against, here, there = made
            chance = random.Random(seed)
            fates = {text: brute_fate(table, Goal.read(text)) for text in all_goals(program.form)}
            lists = [[text] for text in fates] + [chance.sample(sorted(fates), 4) for _ in range(3)]
            lists.append([str(goal) for goal in usual_goals(program.form)])
            with self.subTest(seed):
                for texts in lists:
                    self.check(table, texts, fates, judge(program, here, there, goals=goals_of(*texts),
                                                          against=against))

    def check(self, table, texts, fates, verdict):
        reached = [fates[text] for text in texts if fates[text] is not None]
        self.same(bool(verdict), not reached)
        if not reached:
            self.same([verdict.paper, len(verdict)], [("never", tuple(table.worlds())), len(table)])
            return
        word, start, labels = verdict.paper
        self.same([word, len(labels), len(verdict)], ["run", min(reached), min(reached)])
        world = table.after(start, labels)
        before = table.after(start, labels[:-1])
        known = [text for text in texts if goal_of(table, Goal.read(text), world)
                 or goal_by_move(table, Goal.read(text), before, labels[-1])]
        self.same(verdict.told()[-1], f"reaches {known[0]}")


def brute_fate(table, goal):
    """The least number of labels of a run that reaches a goal, looked for in all worlds and moves."""
    lengths = [table.distance(world) for world in table.worlds() if goal_of(table, goal, world)]
    for world in table.worlds():
        lengths += [table.distance(world) + 1 for label, behind in table.followers(world)
                    if goal_by_move(table, goal, world, label)]
    return min(lengths, default=None)
