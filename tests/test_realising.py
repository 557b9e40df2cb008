"""Runs made real: rows, filters and what comes from outside (point 28)."""

import random

from latequestions.books import Book
from latequestions.errors import BadLabel, BadStart, NotAlong, TooMany
from latequestions.forms import Form
from latequestions.goals import Goal
from latequestions.judging import judge
from latequestions.programs import Program
from latequestions.realising import Members, Powers, Real, realise
from latequestions.runs import Outside, perform
from latequestions.twins import Twin
from latequestions.worlds import Worlds
from noticed import Noticing, all_goals
from support import GREATEST_VALUE, ODD_VALUES, Case
from test_table_runs import random_table

USUAL, PLAIN, FRESH = Book.usual(), Book.plain(), Book.fresh()
FORM = Form.read("a:f,g b:h")
PROGRAM = Program(["q = f", "others", "x = q[?]", "xs = q[?:?]", "repeat", "x.a += ?", "has q[?]", "end", "x.b = ?",
                   "others"], FORM)
START = (1, 0)
LABELS = ((), ("write", "a", 3), ("write", "b", 1), ("go",), (1,), (0,), (1,), (2, 1), (0,), (1,), (0, 0), (1,), (0,),
          (1,), ("put", 2, 1), ("remove",))


class MembersTest(Case):

    def test_a_filter(self):
        members = Members([5, -3, GREATEST_VALUE, 5, -GREATEST_VALUE, 0])
        for value in (5, -3, GREATEST_VALUE, -GREATEST_VALUE, 0):
            self.same([members(value), value in members], [True, True])
        for value in (1, 4, 3, -5, -1, -2, GREATEST_VALUE + 1, 1 - GREATEST_VALUE, 10 ** 90):
            self.same([members(value), value in members], [False, False])
        self.same(len(members), 5)

    def test_empty_tuples_and_copies(self):
        self.same([len(Members(())), Members([])(0), 0 in Members(values=())], [0, False, False])
        values = [-1]
        members = Members(values)
        values.append(-2)
        values[0] = 7
        self.same([members(-1), members(-2), members(7), len(members)], [True, False, False, 1])
        self.same(Members((-1, -2))(value=-2), True)

    def test_equal_to_itself_only(self):
        members = Members([1])
        self.assertTrue(members == members)
        self.assertFalse(members == Members([1]))

    def test_true_is_no_one(self):
        self.same([True in Members([1]), False in Members([0]), Members([1])(True)], [False, False, False])


class PowersTest(Case):

    def test_powers(self):
        powers = Powers()
        self.same([powers(n, 1) for n in range(5)], [1, 2, 4, 8, 16])
        self.same([powers(3, key) for key in (0, -7, 10 ** 30)], [8, 8, 8])
        powers = Powers(first=60, by=60)
        self.same([powers(0, 1), powers(n=1, key=1)], [2 ** 60, 2 ** 120])
        self.same([Powers(0, 0)(n, 1) for n in (0, 9, 10 ** 9)], [1, 1, 1])
        self.same([Powers(5, 2)(n, 1) for n in (0, 1, 2)], [32, 128, 512])
        self.same([Powers(7)(n, 1) for n in (0, 113)], [128, 2 ** 120])

    def test_as_a_value_from_outside(self):
        program = Program(["q = all", "update q.a += ?", "update q.a += ?"], Form.read("a"))
        told = perform(program, {1: {"a": 1}, 2: {"a": 0}}, {}, USUAL, Outside(value=Powers(1)))
        self.same(told[2], {1: {"a": 7}, 2: {"a": 6}})

    def test_equal_to_itself_only(self):
        powers = Powers()
        self.assertTrue(powers == powers)
        self.assertFalse(powers == Powers())


class RealTest(Case):

    def test_what_is_made(self):
        real = realise(PROGRAM, USUAL, PLAIN, START, LABELS)
        self.assertIs(type(real), Real)
        self.same([list(real.rows), list(real.rows[1])], [[1], ["a", "b"]])
        self.assertIs(real.programs[0], PROGRAM)
        self.assertIs(real.programs[1], PROGRAM)
        self.same([type(real.programs), type(real.books)], [tuple, tuple])
        self.assertEqual(real.books, (USUAL, PLAIN))
        self.same(list(real.filters), ["f", "g", "h"])
        self.assertEqual([type(real.filters[name]) for name in real.filters], [Members] * 3)
        outside = real.outside
        self.assertIs(type(outside), Outside)
        self.same([outside.picks, outside.choices, outside.cuts], [(1, 1, 0), (1, 2, 1), ((2, 3),)])
        self.same([[deed[:2] + deed[2:-1] for deed in several] for several in outside.deeds],
                  [[("write", 1, "a"), ("write", 1, "b")], [("put", 1), ("remove", 1)]])
        self.same([type(several) for several in outside.deeds], [tuple, tuple])

    def test_values_are_free(self):
        real = realise(PROGRAM, USUAL, PLAIN, START, LABELS)
        first, second = real.outside.deeds
        given = [real.outside.value(n, 1) for n in range(3)]
        for field in (0, 1):
            values = [real.rows[1]["ab"[field]], second[0][2][field], *given]
            values += [deed[3] for deed in first if deed[2] == "ab"[field]]
            self.assertEqual(len(set(values)), len(values))
            self.assertEqual([value for value in values if value not in [2 ** at for at in range(121)]], [])
        # Behind the run the values are 0.
        self.same([real.outside.value(n, key) for n in (3, 4, 60) for key in (1, 2)], [0] * 6)
        self.same(real.outside.value(0, 7), given[0])

    def test_filters_hold_as_the_masks_say(self):
        real = realise(PROGRAM, USUAL, PLAIN, START, LABELS)
        first, second = real.outside.deeds
        given = [real.outside.value(n, 1) for n in range(3)]
        begun, written, put = real.rows[1]["a"], first[0][3], second[0][2]
        # Here the object was asked behind the write, there at the building.
        masks = {begun: 1, written: 3, written + given[0]: 2, begun + given[0]: 1, put[0]: 2}
        for value, mask in masks.items():
            self.same([real.filters["f"](value), real.filters["g"](value)], [mask in (1, 3), mask in (2, 3)])
        self.same([real.filters["h"](value) for value in (real.rows[1]["b"], first[1][3], given[2], put[1])],
                  [False, True, True, True])
        for value in (0, -1, begun + written, given[0], sum(given), 3):
            self.same([real.filters[name](value) for name in "fg"], [False, False])

    def test_start_without_the_row_and_without_labels(self):
        real = realise(PROGRAM, USUAL, PLAIN, (), ())
        self.same([real.rows, [len(real.filters[name]) for name in "fgh"]], [{}, [0, 0, 0]])
        outside = real.outside
        self.same([outside.picks, outside.choices, outside.cuts, outside.deeds], [(), (), (), ()])
        self.same(outside.value(0, 1), 0)
        real = realise(PROGRAM, USUAL, PLAIN, (3, 1), ())
        self.same([list(real.rows), [len(real.filters[name]) for name in "fgh"]], [[1], [1, 1, 1]])
        real = realise(Program([], Form.read("a")), USUAL, PLAIN, (), ())
        self.same([real.rows, real.filters, real.played()], [{}, {}, (([], [], {}, 0, True),) * 2])

    def test_a_program_without_rows(self):
        real = realise(Program([], Form.read("a")), USUAL, PLAIN, (0,), ())
        value = real.rows[1]["a"]
        self.same(real.played(), (([], [], {1: {"a": value}}, 0, True),) * 2)

    def test_an_others_without_deeds_has_an_empty_list(self):
        program = Program(["others", "others", "others"], Form.read("a"))
        real = realise(program, USUAL, PLAIN, (), (("go",), ("put", 0), ("go",)))
        self.same([len(several) for several in real.outside.deeds], [0, 1])
        real = realise(program, USUAL, PLAIN, (), (("go",), ("put", 0), ("go",), ("remove",), ("put", 0), ("go",)))
        self.same([len(several) for several in real.outside.deeds], [0, 1, 2])

    def test_keys_and_cuts(self):
        rows = ["q = all", "x = q[?]", "has q[?]", "xs = q[?:?]", "x = xs[?]", "ys = q[?:?]"]
        program = Program(rows, Form.read("a"))
        real = realise(program, USUAL, PLAIN, (0,), ((), (1,), (0,), (1,), (0,), (0,)))
        self.same([real.outside.choices, real.outside.cuts], [(1, 2, 2), ((1, 2), (2, 3))])
        real = realise(program, USUAL, PLAIN, (), ((), (0,), (1,), (0,), (1,), (1,)))
        self.same([real.outside.choices, real.outside.cuts], [(2, 1, 1), ((2, 3), (1, 2))])

    def test_labels_that_end_in_the_middle_of_an_others(self):
        program = Program(["q = all", "others", "len q"], Form.read("a"))
        real = realise(program, USUAL, PLAIN, (0,), ((), ("remove",)))
        self.same(real.outside.deeds, ((("remove", 1),),))
        twin = Twin(program, real.rows, real.filters, USUAL, PLAIN, real.outside)
        twin.step()
        twin.step()
        self.same([twin.at, [store.told() for store in twin.stores]], [2, [{}, {}]])
        self.same([told[0] for told in real.played()], [[0], [1]])

    def test_against(self):
        program = Program(["q = all", "x = q[?]", "x.a = ?", "others", "save x"], Form.read("a b"))
        turned = program.turned([4])
        real = realise(program, USUAL, FRESH, (0, 0), ((), (1,), (0,), ("write", "b", 0), ("go",), ()), against=turned)
        self.assertIs(real.programs[0], program)
        self.assertIs(real.programs[1], turned)
        self.assertEqual(real.books, (USUAL, FRESH))
        here, there = real.played()
        self.same([here[2][1]["b"], there[2][1]["b"]], [real.rows[1]["b"], real.outside.deeds[0][0][3]])

    def test_played(self):
        real = realise(PROGRAM, USUAL, PLAIN, START, LABELS)
        expected = [perform(PROGRAM, real.rows, real.filters, book, real.outside) for book in (USUAL, PLAIN)]
        self.same(real.played(), tuple(expected))
        real.played()[0][0].append(1)
        real.played()[1][2].clear()
        self.same(real.played(), tuple(expected))

    def test_both_go_on_behind_the_run(self):
        program = Program(["q = all", "x = q[?]", "x.a = ?", "save x", "x.a += ?", "show x.a", "y = q[?]"],
                          Form.read("a"))
        real = realise(program, USUAL, PLAIN, (0,), ((), (1,), (0,)))
        value = real.outside.value(0, 1)
        self.same(real.played(), (([(1, value)], [], {1: {"a": value}}, 1, False),
                                  ([(1, value)], [], {1: {"a": value}}, 1, False)))

    def test_by_name(self):
        real = realise(program=PROGRAM, here=USUAL, there=PLAIN, start=START, labels=LABELS, against=None)
        self.same(real.outside.picks, (1, 1, 0))
        with self.assertRaises(TypeError):
            realise(PROGRAM, USUAL, PLAIN, START, LABELS, PROGRAM)


class ErrorsTest(Case):

    def wrong(self, error, fields, start, labels, **named):
        self.fails(error, fields, realise, PROGRAM, USUAL, PLAIN, start, labels, **named)

    def test_not_along(self):
        for other in (Program([], FORM), Program(["q = g"], FORM)):
            self.wrong(NotAlong, {}, None, None, against=other)
            self.wrong(NotAlong, {}, START, LABELS, against=other)

    def test_starts(self):
        many = ((),) * 101
        for start in ODD_VALUES + [0, "", (0,), (4, 0), (0, 2), [1, 0], (True, 0), (1, False), (1, 0, 0), ((1, 0),)]:
            if start != ():
                for labels in (None, [], many, ((), None)):
                    self.wrong(BadStart, {"start": start}, start, labels)

    def test_labels_that_are_no_tuple(self):
        for labels in ODD_VALUES + [0, "", list(LABELS), [None] * 101]:
            if not isinstance(labels, tuple):
                self.wrong(BadLabel, {"label": labels}, START, labels)

    def test_wrong_labels(self):
        for label in ODD_VALUES + [0, "", (0,), ("go",), [()]]:
            if label != ():
                self.wrong(BadLabel, {"label": label}, START, (label,))
        for label in ODD_VALUES + [("go", 1), ["go"], ("put", 1), ("put", 4, 0), ("put", True, 0), ("write", "a", 4),
                                   ("write", "f", 0), ("write", "a"), ("remove", 1), "go", ("write", "a", False), (0,)]:
            self.wrong(BadLabel, {"label": label}, START, ((), label, None))
        self.wrong(BadLabel, {"label": ("remove",)}, (), ((), ("remove",)))
        self.wrong(BadLabel, {"label": ("write", "a", 0)}, (), ((), ("write", "a", 0)))
        self.wrong(BadLabel, {"label": (3,)}, START, (*LABELS[:7], (3,)))
        self.wrong(BadLabel, {"label": (4, 0)}, START, (*LABELS[:7], (4, 0)))
        self.wrong(BadLabel, {"label": ()}, START, (*LABELS, ("go",), ()))

    def test_too_many_labels(self):
        program = Program(["repeat", "end"], Form.read("a"))
        for count in (99, 100):
            real = realise(program, USUAL, PLAIN, (0,), ((1,),) * count)
            self.same(real.outside.picks, (1,) * count)
        for labels in (((1,),) * 101, (None,) * 101, ((1,),) * 999):
            self.fails(TooMany, {"what": "labels"}, realise, program, USUAL, PLAIN, (0,), labels)
        self.fails(BadLabel, {"label": None}, realise, program, USUAL, PLAIN, (0,), (None,) * 100)
        self.fails(BadStart, {"start": (1,)}, realise, program, USUAL, PLAIN, (1,), ((1,),) * 101)
        self.fails(BadLabel, {"label": [(1,)] * 101}, realise, program, USUAL, PLAIN, (0,), [(1,)] * 101)

    def test_a_hundred_values(self):
        program = Program(["q = all", "repeat", "update q.a += ?", "end", "others"], Form.read("a:f"))
        labels = ((), *(((1,), (1,)) * 40), (0,), *((("put", 0),) * 9), *((("write", "a", 1),) * 9))
        self.assertEqual(len(labels), 100)
        real = realise(program, USUAL, PLAIN, (1,), labels)
        twin = Twin(program, real.rows, real.filters, USUAL, PLAIN, real.outside)
        while twin.at < 4 and not twin.here.is_over:
            twin.step()
        told = Worlds(program, USUAL, PLAIN).after((1,), (*labels, ("go",)))
        self.same(twin.world_of(1), told)
        values = [real.outside.value(n, 1) for n in range(40)]
        values += [deed[2][0] if deed[0] == "put" else deed[3] for deed in real.outside.deeds[0]] + [real.rows[1]["a"]]
        self.assertEqual(len(set(values)), 59)
        self.assertEqual([value for value in values if value not in [2 ** at for at in range(121)]], [])

    def test_no_bound_on_the_number_of_worlds(self):
        rows = ("q = f", "x = q[?]", "x.a += ?", "others", "r = g", "y = r[?]", "x.a += ?", "others", "save x")
        program = Program(rows, Form.read("a:f,g,h"))
        self.fails(TooMany, {"what": "worlds"}, Worlds, program, USUAL, PLAIN)
        real = realise(program, USUAL, PLAIN, (1,), ((), (1,), (5,), ("go",), ()))
        self.same(len(real.filters["f"]), 2)


class WorldsOfRunsTest(Case):

    def test_a_twin_tells_the_worlds_of_the_run(self):
        for seed in range(120):
            made = random_table(seed, 10, 700, begin=["q = all", "x = q[?]"] if seed % 2 else [])
            if made is None:
                continue
            table, program, against, here, there = made
            chance = random.Random(seed)
            starts = [start for start, world in table.firsts()]
            for _ in range(8):
                start, labels = drawn_way(chance, table, starts)
                real = realise(program, here, there, start, labels, against=against)
                with self.subTest(seed):
                    self.same(*self.told_and_expected(table, real, start, labels))

    def told_and_expected(self, table, real, start, labels):
        program, against = real.programs
        twin = Twin(program, real.rows, real.filters, *real.books, real.outside, against=against)
        told = [twin.world_of(1)]
        expected = [table.after(start, ())]
        world = expected[0]
        for label in labels:
            before, world = world, dict(table.followers(world))[label]
            if program.steps[before[0]].kind != "others" or label == ("go",):
                twin.step()
                told.append(twin.world_of(1))
                expected.append(world)
        if world != expected[-1]:
            # The labels end in the middle of an `others`: the step does these deeds and goes on.
            twin.step()
            told.append(twin.world_of(1))
            expected.append(dict(table.followers(world))["go",])
        return told, expected

    def test_papers_of_verdicts_are_played(self):
        """The last part of a run that reaches a goal, made real and performed, does what the goal says."""
        seen = {"shown": 0, "differs": 0, "missing": 0, "extra": 0, "gone": 0}
        for seed in range(150):
            made = random_table(seed, 9, 600, begin=["q = all", "others", "x = q[?]"] if seed % 2 else [])
            if made is None:
                continue
            table, program, against, here, there = made
            for text in all_goals(program.form):
                goal = Goal.read(text)
                verdict = judge(program, here, there, goals=[goal], against=against)
                if verdict:
                    continue
                word, start, labels = verdict.paper
                real = realise(program, here, there, start, labels, against=against)
                self.same(*self.told_and_expected(table, real, start, labels))
                if goal.kind in Goal.MOVES:
                    self.assertIn(text, Noticing(program, against, here, there, start, labels).moves)
                if goal.kind in seen and (goal.at_end or goal.kind in Goal.MOVES):
                    seen[goal.kind] += 1
                    self.check_played(goal, real)
        self.assertTrue(min(seen.values()) > 3, seen)

    def check_played(self, goal, real):
        here, there = real.played()
        if goal.kind == "shown":
            self.assertNotEqual(here[0], there[0])
        elif goal.kind == "gone":
            self.assertEqual([key for step, key in here[1]][:1], [1])
        else:
            self.same([here[4], there[4]], [True, True])
            rows = [here[2].get(1), there[2].get(1)]
            if goal.kind == "differs":
                self.assertNotEqual(rows[0][goal.field], rows[1][goal.field])
            else:
                self.same([row is None for row in rows], [goal.kind == "missing", goal.kind == "extra"])


def drawn_way(chance, table, starts):
    """A start and at most 30 labels of a drawn run."""
    start = chance.choice(starts)
    world, labels = table.after(start, ()), []
    for _ in range(chance.randrange(30)):
        followers = table.followers(world)
        if not followers:
            break
        label, world = chance.choice(followers)
        labels.append(label)
    return start, tuple(labels)
