"""Goals: how they are written, and which worlds and moves are as they say (points 24, 25 and 27)."""

from latequestions.books import Book
from latequestions.errors import BadGoal, BadLabel, NoField, NoWorld
from latequestions.forms import Form
from latequestions.goals import Goal, goal_by_move, goal_of, usual_goals
from latequestions.programs import Program
from latequestions.worlds import Worlds
from support import ODD_VALUES, Case

USUAL, PLAIN, FRESH = Book.usual(), Book.plain(), Book.fresh()


class WritingTest(Case):

    def test_class_values(self):
        self.same(Goal.STATES, ("differs", "missing", "extra", "unsaved", "twice"))
        self.same(Goal.MOVES, ("shown", "gone", "elder", "crossed", "returns", "dropped"))
        self.same(Goal.FIELDED, ("differs", "unsaved", "elder", "crossed", "dropped"))

    def test_read_and_told(self):
        for kind in Goal.STATES + Goal.MOVES:
            field = "price" if kind in Goal.FIELDED else ""
            for at_end in (False, True) if kind in Goal.STATES else (False,):
                words = [kind, field, "end" if at_end else ""]
                text = " ".join([word for word in words if word])
                goal = Goal.read(text)
                self.same([goal.kind, goal.field, goal.at_end, str(goal)], [kind, field, at_end, text])
                made = Goal(kind, field, at_end=at_end)
                self.same([made.kind, made.field, made.at_end, str(made)], [kind, field, at_end, text])
                self.assertTrue(made == goal)
                self.assertFalse(made != goal)

    def test_by_name(self):
        goal = Goal(kind="differs", field="a", at_end=True)
        self.same(str(goal), "differs a end")
        self.same(str(Goal.read(text="elder zzzzzzzz")), "elder zzzzzzzz")
        self.same([Goal("twice").field, Goal("twice").at_end], ["", False])
        with self.assertRaises(TypeError):
            Goal("differs", "a", True)

    def test_equal(self):
        texts = ["differs a", "differs a end", "differs b", "missing", "missing end", "shown", "elder a", "crossed a"]
        for one in texts:
            for other in texts:
                self.same(Goal.read(one) == Goal.read(other), one == other)
            for thing in ODD_VALUES + [one, 1]:
                self.same(Goal.read(one) == thing, False)

    def test_no_goals(self):
        for text in ODD_VALUES + [
                "", " ", "differs", "differs ", "differs end", "differs a b", "differs  a", " differs a", "differs a ",
                "differs a  end", "differs a end end", "differs end end", "differs a END", "Differs a", "differs A",
                "differs a1", "differs abcdefghi", "differs all", "differs self", "differs key end", "missing a",
                "missing end end", "missing  end", "missing ", "extra a end", "unsaved", "unsaved end", "twice end ",
                "twice twice", "shown end", "shown a", "gone end", "elder", "elder a end", "elder end", "crossed end",
                "crossed a end", "returns end", "returns a", "dropped", "dropped a end", "end", "a", "differs\na",
                "differs a,b", 0, 1, ["differs a"], ("missing",)]:
            self.fails(BadGoal, {"goal": text}, Goal.read, text)

    def test_a_field_may_be_any_name(self):
        for name in ("a", "abcdefgh", "differs", "missing", "ends", "usual"):
            self.same(str(Goal.read(f"unsaved {name} end")), f"unsaved {name} end")

    def test_usual_goals(self):
        self.same([str(goal) for goal in usual_goals(Form.read("price"))],
                  ["differs price end", "missing end", "extra end", "shown"])
        goals = usual_goals(form=Form.read("c b:f a"))
        self.same([str(goal) for goal in goals],
                  ["differs a end", "differs b end", "differs c end", "missing end", "extra end", "shown"])
        self.assertEqual([type(goal) for goal in goals], [Goal] * 6)
        self.assertTrue(goals[0] == Goal("differs", "a", at_end=True))
        goals.clear()
        self.assertEqual(len(usual_goals(Form.read("a"))), 4)


class GoalCase(Case):

    def table(self, text, *rows, here=USUAL, there=PLAIN, against=None):
        program = Program(rows, Form.read(text))
        other = None if against is None else Program(against, program.form)
        self.told = Worlds(program, here, there, against=other)

    def states(self, start, *labels):
        """The texts of the states that the world behind these labels is as, without and with `end`."""
        return self.among(goal_of, self.told.after(start, labels))

    def moves(self, start, *labels):
        """The texts of the kinds of moves that the last of these labels is as."""
        return self.among(goal_by_move, self.told.after(start, labels[:-1]), labels[-1])

    def among(self, asked, *world_and_label):
        goals = []
        for kind in Goal.STATES + Goal.MOVES:
            fields = self.told.program.form.fields if kind in Goal.FIELDED else [""]
            goals += [Goal(kind, field) for field in fields]
            goals += [Goal(kind, field, at_end=True) for field in fields if kind in Goal.STATES]
        told = [asked(self.told, goal, *world_and_label) for goal in goals]
        self.assertEqual([one for one in told if one is not True and one is not False], [])
        return [str(goal) for goal, one in zip(goals, told) if one]


class StatesTest(GoalCase):

    def test_first_worlds(self):
        self.table("a b:f")
        for start, world in self.told.firsts():
            self.same(self.states(start), [])

    def test_differs(self):
        self.table("a b", "q = all", "others", "x = q[?]", "x.b = ?", "save x", "others")
        before = [(), ("write", "a", 0), ("write", "b", 0), ("go",), (1,), (0,)]
        self.same(self.states((0, 0), *before), ["unsaved b"])
        self.same(self.states((0, 0), *before, ()), ["differs a"])
        self.same(self.states((0, 0), *before, (), ("go",)), ["differs a", "differs a end"])
        self.same(self.states((0, 0), *before, (), ("put", 0, 0), ("go",)), [])
        self.same(self.states((0, 0), *before, (), ("remove",), ("go",)), [])

    def test_missing_and_extra(self):
        rows = ["q = f", "others", "x = q[?]", "delete x"]
        self.table("a:f", *rows)
        self.same(self.states((1,), (), ("write", "a", 0), ("go",), (1,), ()), ["extra", "extra end"])
        self.same(self.states((0,), (), ("write", "a", 1), ("go",), (1,), ()), ["missing", "missing end"])
        self.same(self.states((1,), (), ("write", "a", 1), ("go",), (1,), ()), [])
        self.same(self.states((1,), (), ("write", "a", 0), ("go",), (0,), ()), [])
        self.table("a:f", *rows, here=PLAIN, there=USUAL)
        self.same(self.states((1,), (), ("write", "a", 0), ("go",), (1,), ()), ["missing", "missing end"])

    def test_unsaved_is_asked_here_only(self):
        rows = ["q = all", "x = q[?]", "x.a = ?", "x.b += ?"]
        self.table("a b", *rows)
        self.same(self.states((0, 0), (), (1,), (0,)), ["unsaved a"])
        self.same(self.states((0, 0), (), (1,), (0,), (0,)),
                  ["unsaved a", "unsaved b", "unsaved a end", "unsaved b end"])
        self.same(self.states((0, 0), (), (0,), (), ()), [])
        self.table("a:f b", "q = f", "others", "x = q[?]", "x.a = ?")
        self.same(self.states((1, 0), (), ("write", "a", 0), ("go",), (1,), (0,)), [])
        self.same(self.states((0, 0), (), ("write", "a", 1), ("go",), (1,), (0,)), ["unsaved a", "unsaved a end"])

    def test_unsaved_behind_saves(self):
        self.table("a b", "q = all", "x = q[?]", "x.a = ?", "x.b = ?", "save x by b", "save x touched")
        self.same(self.states((0, 0), (), (1,), (0,), (0,), ()), ["unsaved a"])
        self.same(self.states((0, 0), (), (1,), (0,), (0,), (), ()), [])

    def test_twice(self):
        self.table("a", "q = all", "x = q[?]", "y = q[?]", "len q")
        self.same(self.states((0,), (), (1,)), [])
        self.same(self.states((0,), (), (1,), (1,)), ["twice"])
        self.same(self.states((0,), (), (1,), (1,), ()), ["twice", "twice end"])
        self.same(self.states((0,), (), (1,), (0,)), [])
        self.table("a", "q = all", "x = q[?]", "y = q[?]", here=PLAIN, there=USUAL)
        self.same(self.states((0,), (), (1,), (1,)), [])

    def test_the_end_of_a_program_without_steps(self):
        self.table("a", "quiet", "end")
        self.same(self.states((0,)), [])


class ShownTest(GoalCase):

    def test_looks(self):
        for look in ("len", "truth", "count", "any"):
            self.table("a:f", "q = f", "others", f"{look} q")
            self.same(self.moves((1,), (), ("write", "a", 0), ("go",), ()), ["shown"])
            self.same(self.moves((0,), (), ("write", "a", 1), ("go",), ()), ["shown"])
            self.same(self.moves((1,), (), ("write", "a", 1), ("go",), ()), [])
            self.same(self.moves((), (), ("put", 1), ("go",), ()), ["shown"])
            self.same(self.moves((), (), ("put", 0), ("go",), ()), [])
            self.same(self.moves((1,), (), ("remove",), ("go",), ()), ["shown"])
            self.same(self.moves((1,), ()), [])

    def test_has_shows_the_row_if_its_key_is_chosen(self):
        self.table("a:f", "q = f", "others", "has q[?]")
        self.same(self.moves((1,), (), ("write", "a", 0), ("go",), (1,)), ["shown"])
        self.same(self.moves((1,), (), ("write", "a", 0), ("go",), (0,)), [])
        self.same(self.moves((1,), (), ("go",), (1,)), [])

    def test_looks_that_bind_show_nothing(self):
        for row in ("xs = list q", "for w in q"):
            self.table("a:f", "q = f", "others", row, *(["end"] if row.startswith("for") else []))
            self.same(self.moves((1,), (), ("write", "a", 0), ("go",), ()), [])
        for row in ("x = q[?]", "xs = q[?:?]"):
            self.table("a:f", "q = f", "others", row)
            for label in ((0,), (1,)):
                self.same(self.moves((1,), (), ("write", "a", 0), ("go",), label), [])

    def test_a_kept_answer_is_shown_again(self):
        self.table("a:f", "q = f", "len q", "others", "len q", there=Book(len="anew"))
        before = [(), (), ("write", "a", 0), ("go",), ()]
        self.same(self.moves((1,), *before), ["shown"])
        self.same(self.moves((1,), *before[:2]), [])

    def test_show(self):
        self.table("a:f b", "q = f", "others", "x = q[?]", "show x.b", "show x.a")
        before = [(), ("write", "b", 0), ("go",), (1,)]
        self.same(self.moves((1, 0), *before, ()), ["shown"])
        self.same(self.moves((1, 0), *before, (), ()), [])
        one_side = [(), ("write", "a", 0), ("go",), (1,)]
        self.same(self.moves((1, 0), *one_side, ()), ["shown"])
        self.same(self.moves((0, 0), (), ("write", "a", 1), ("go",), (1,), ()), ["shown"])
        self.same(self.moves((0, 0), (), ("go",), (1,), ()), [])
        self.same(self.moves((1, 0), (), ("write", "b", 0), ("go",), (0,), ()), [])

    def test_fresh_show(self):
        self.table("a", "q = all", "others", "x = q[?]", "fresh show x.a")
        self.same(self.moves((0,), (), ("write", "a", 0), ("go",), (1,), ()), [])
        self.table("a", "q = all", "others", "x = q[?]", "others", "fresh show x.a")
        before = [(), ("write", "a", 0), ("go",), (1,)]
        # Without the row the objects show what they hold, here the newer value.
        self.same(self.moves((0,), *before, ("remove",), ("go",), ()), ["shown", "gone"])
        self.same(self.moves((0,), *before, ("put", 0), ("go",), ()), [])

    def test_fresh_on_one_side_only(self):
        rows = ["q = all", "x = q[?]", "others", "show x.a"]
        self.table("a", *rows, there=USUAL, against=[*rows[:3], "fresh show x.a"])
        self.same(self.moves((0,), (), (1,), ("write", "a", 0), ("go",), ()), ["shown"])
        self.same(self.moves((0,), (), (1,), ("remove",), ("go",), ()), [])

    def test_show_in_a_walk(self):
        self.table("a:f", "q = f", "others", "for w in q", "show w.a", "end")
        self.same(self.moves((1,), (), ("write", "a", 1), ("go",), (), ()), ["shown"])
        self.same(self.moves((1,), (), ("remove",), ("go",), (), ()), ["shown"])
        self.same(self.moves((1,), (), ("go",), (), ()), [])


class GoneTest(GoalCase):

    def test_deeds_that_are_refused(self):
        for row, label in (("reread x", ()), ("delete x", ()), ("save x by a", ()), ("fresh show x.a", ()),
                           ("fresh x.a = ?", (0,)), ("fresh x.a += ?", (0,))):
            self.table("a", "q = all", "x = q[?]", "others", row)
            self.same(self.moves((0,), (), (1,), ("remove",), ("go",), label), ["gone"])
            self.assertNotIn("gone", self.moves((0,), (), (1,), ("remove",), ("put", 0), ("go",), label))
            self.same(self.moves((), (), (1,), ("go",), () if label else label), [])
            self.same(self.moves((0,), (), (0,), ("remove",), ("go",), () if label else label), [])

    def test_deeds_that_are_not(self):
        for row, label in (("save x touched", ()), ("show x.a", ()), ("x.a = ?", (0,)), ("x.a += ?", (0,))):
            self.table("a", "q = all", "x = q[?]", "others", row)
            self.same(self.moves((0,), (), (1,), ("remove",), ("go",), label), [])

    def test_a_save_of_touched_fields(self):
        self.table("a", "q = all", "x = q[?]", "x.a = ?", "others", "save x touched")
        self.same(self.moves((0,), (), (1,), (0,), ("remove",), ("go",), ()), ["gone"])

    def test_questions_are_not_refused(self):
        self.table("a", "q = all", "len q", "others", "update q.a += ?", "wipe q")
        self.same(self.moves((0,), (), (), ("remove",), ("go",), ()), [])
        self.same(self.moves((0,), (), (), ("remove",), ("go",), (), ()), [])

    def test_it_is_asked_here_only(self):
        rows = ["q = all", "x = q[?]", "others", "fresh x.a = ?"]
        self.table("a", "q = all", "x = q[?]", "others", "x.a = ?", there=USUAL, against=rows)
        self.same(self.moves((0,), (), (1,), ("remove",), ("go",), (0,)), [])
        self.table("a", *rows, there=USUAL, against=[*rows[:3], "x.a = ?"])
        self.same(self.moves((0,), (), (1,), ("remove",), ("go",), (0,)), ["gone"])


class SavesTest(GoalCase):

    def test_elder_and_crossed(self):
        self.table("a b", "q = all", "x = q[?]", "x.a = ?", "others", "save x")
        before = [(), (1,), (0,)]
        self.same(self.moves((0, 0), *before, ("go",), ()), [])
        self.same(self.moves((0, 0), *before, ("write", "a", 0), ("go",), ()), ["crossed a"])
        self.same(self.moves((0, 0), *before, ("write", "b", 0), ("go",), ()), ["elder b"])
        self.same(self.moves((0, 0), *before, ("put", 0, 0), ("go",), ()), ["elder b", "crossed a"])

    def test_by_fields(self):
        self.table("a b", "q = all", "x = q[?]", "x.a = ?", "others", "save x by a", "save x by b")
        before = [(), (1,), (0,), ("put", 0, 0), ("go",)]
        self.same(self.moves((0, 0), *before, ()), ["crossed a"])
        self.same(self.moves((0, 0), *before, (), ()), ["elder b"])

    def test_by_touched_fields(self):
        self.table("a b", "q = all", "x = q[?]", "x.a = ?", "others", "save x touched", "save x touched")
        before = [(), (1,), (0,), ("put", 0, 0), ("go",)]
        self.same(self.moves((0, 0), *before, ()), ["crossed a"])
        self.same(self.moves((0, 0), *before, (), ()), [])

    def test_returns(self):
        self.table("a b", "q = all", "x = q[?]", "x.a = ?", "others", "save x", "save x")
        before = [(), (1,), (0,), ("remove",), ("go",)]
        self.same(self.moves((0, 0), *before, ()), ["returns"])
        self.same(self.moves((0, 0), *before, (), ()), [])

    def test_refused_saves_store_nothing(self):
        for row in ("save x by a", "save x by b", "save x by b, a", "save x touched"):
            self.table("a b", "q = all", "x = q[?]", "x.a = ?", "others", row)
            self.same(self.moves((0, 0), (), (1,), (0,), ("remove",), ("go",), ()), ["gone"])

    def test_without_an_object_of_the_row(self):
        self.table("a:f", "q = f", "x = q[?]", "others", "save x")
        for before in ([(), (0,)], [(), (1,)]):
            self.same(self.moves((0,), *before, ("write", "a", 1), ("go",), ()), [])
        self.same(self.moves((1,), (), (0,), ("remove",), ("go",), ()), [])

    def test_they_are_asked_here_only(self):
        self.table("a b", "q = all", "others", "x = q[?]", "x.b = ?", "save x")
        before = [(), ("write", "a", 0), ("go",), (1,), (0,), ()]
        self.same(self.moves((0, 0), *before), [])
        self.table("a b", "q = all", "others", "x = q[?]", "x.b = ?", "save x", here=PLAIN, there=USUAL)
        self.same(self.moves((0, 0), *before), ["elder a"])

    def test_in_a_walk(self):
        self.table("a b", "q = all", "len q", "others", "for w in q", "w.b = ?", "save w", "end")
        before = [(), (), ("put", 0, 0), ("go",), (), (0,)]
        self.same(self.moves((0, 0), *before, ()), ["elder a", "crossed b"])


class DroppedTest(GoalCase):

    def test_a_name_that_holds_another_object(self):
        self.table("a b", "q = all", "x = q[?]", "x.a = ?", "x.b = ?", "x = q[?]")
        before = [(), (1,), (0,)]
        for label in ((0,), (1,)):
            self.same(self.moves((0, 0), *before, (0,), label), ["dropped a", "dropped b"])
        self.same(self.moves((0, 0), (), (0,), (), (), (1,)), [])
        # Under the plain book the question keeps the object.
        self.table("a b", "q = all", "x = q[?]", "x.a = ?", "x.b = ?", "x = q[?]", here=PLAIN)
        for label in ((0,), (1,)):
            self.same(self.moves((0, 0), *before, (0,), label), [])

    def test_an_object_that_is_not_touched(self):
        self.table("a", "q = all", "x = q[?]", "x = q[?]", "x.a = ?", "save x", "x = q[?]")
        self.same(self.moves((0,), (), (1,), (1,)), [])
        self.same(self.moves((0,), (), (1,), (1,), (0,), (), (1,)), [])

    def test_the_last_name(self):
        self.table("a", "q = all", "xs = list q", "x = xs[?]", "x.a = ?", "xs = q[?:?]", "x = xs[?]",
                   here=Book(list="ask"))
        before = [(), (), (1,), (0,)]
        self.same(self.moves((0,), *before, (1,)), [])
        self.same(self.moves((0,), *before, (1,), (0,)), ["dropped a"])
        self.same(self.moves((0,), *before, (0,), (1,)), ["dropped a"])

    def test_a_building_that_is_done_again(self):
        self.table("a", "repeat", "q = all", "xs = list q", "for w in xs", "w.a = ?", "end", "end", here=USUAL)
        once = [(1,), (), (), (), (0,), ()]
        self.same(self.moves((0,), *once), [])
        # The question lets the object go, the listing still holds it until it is listed again.
        self.same(self.moves((0,), *once, (1,), ()), [])
        self.same(self.moves((0,), *once, (1,), (), ()), ["dropped a"])

    def test_the_end_of_a_walk(self):
        self.table("a", "q = all", "for w in q", "w.a = ?", "end", here=Book(walk="ask"))
        self.same(self.moves((0,), (), (), (0,), ()), ["dropped a"])
        self.same(self.moves((), (), (), (), ()), [])
        self.table("a", "q = all", "for w in q", "w.a = ?", "end", here=Book(walk="keep"))
        self.same(self.moves((0,), (), (), (0,), ()), [])

    def test_another_object_with_equal_values_does_not_count(self):
        self.table("a", "q = all", "x = q[?]", "y = q[?]", "x.a = ?", "y.a = ?", "x = q[?]")
        self.same(self.moves((0,), (), (1,), (1,), (0,), (0,), (1,)), ["dropped a"])
        self.same(self.moves((0,), (), (1,), (1,), (0,), (0,), (0,)), ["dropped a"])
        self.same(self.moves((0,), (), (0,), (1,), (), (0,), (0,)), [])

    def test_a_reread_drops_nothing(self):
        for row, label in (("reread x", ()), ("fresh show x.a", ()), ("fresh x.b = ?", (0,)), ("delete x", ())):
            self.table("a b", "q = all", "x = q[?]", "x.a = ?", row)
            self.same(self.moves((0, 0), (), (1,), (0,), label), [])

    def test_it_is_asked_here_only(self):
        self.table("a", "q = all", "x = q[?]", "x.a = ?", "x = q[?]", here=PLAIN, there=USUAL)
        self.same(self.moves((0,), (), (1,), (0,), (0,)), [])

    def test_picks_and_others_are_moves_without_kinds(self):
        self.table("a b", "q = all", "x = q[?]", "x.a = ?", "others", "repeat", "end")
        before = [(), (1,), (0,)]
        for label in (("go",), ("put", 0, 0), ("remove",), ("write", "a", 0), ("write", "b", 0)):
            self.same(self.moves((0, 0), *before, label), [])
        for label in ((0,), (1,)):
            self.same(self.moves((0, 0), *before, ("go",), label), [])


class ErrorsTest(GoalCase):

    def setUp(self):
        self.table("a:f b", "q = f", "x = q[?]", "x.b = ?")
        self.world = self.told.after((1, 0), ((),))

    def test_fields(self):
        for kind in Goal.FIELDED:
            for field in ("c", "f", "q", "x"):
                goal = Goal(kind, field)
                self.fails(NoField, {"field": field}, goal_of, self.told, goal, None)
                self.fails(NoField, {"field": field}, goal_of, self.told, goal, self.world)
                self.fails(NoField, {"field": field}, goal_by_move, self.told, goal, None, None)
                self.fails(NoField, {"field": field}, goal_by_move, self.told, goal, self.world, (1,))
        self.fails(NoField, {"field": "c"}, goal_of, self.told, Goal("differs", "c", at_end=True), self.world)

    def test_a_field_where_none_belongs_and_none_where_one_does(self):
        for goal, field in ((Goal("differs"), ""), (Goal("elder"), ""), (Goal("missing", "c"), "c")):
            self.fails(NoField, {"field": field}, goal_of, self.told, goal, self.world)
            self.fails(NoField, {"field": field}, goal_by_move, self.told, goal, self.world, (1,))

    def test_worlds(self):
        wrong = ODD_VALUES + [0, "", list(self.world), (True, *self.world[1:]), (9, *self.world[1:]), (self.world,)]
        for text in ("differs a", "missing", "twice end", "shown", "elder b", "returns"):
            for world in wrong:
                self.fails(NoWorld, {"world": world}, goal_of, self.told, Goal.read(text), world)
                self.fails(NoWorld, {"world": world}, goal_by_move, self.told, Goal.read(text), world, None)

    def test_labels(self):
        for text in ("differs a", "missing end", "shown", "elder b", "returns"):
            goal = Goal.read(text)
            for label in ODD_VALUES + [0, "", (2,), (True,), (False,), [1], ((1,),), ("go",), (1, 0), (-1,)]:
                self.fails(BadLabel, {"label": label}, goal_by_move, self.told, goal, self.world, label)
            over = self.told.after((1, 0), ((), (1,), (0,)))
            for label in ((), (0,), ("go",)):
                self.fails(BadLabel, {"label": label}, goal_by_move, self.told, goal, over, label)

    def test_false_for_the_other_sort(self):
        for kind in Goal.MOVES:
            goal = Goal(kind, "a" if kind in Goal.FIELDED else "")
            for world in self.told.worlds():
                self.same(goal_of(self.told, goal, world), False)
        for kind in Goal.STATES:
            goal = Goal(kind, "b" if kind in Goal.FIELDED else "")
            for world in self.told.worlds():
                for label, behind in self.told.followers(world):
                    self.same(goal_by_move(self.told, goal, world, label), False)

    def test_by_name(self):
        goal = Goal("unsaved", "b")
        world = self.told.after((1, 0), ((), (1,), (0,)))
        self.same(goal_of(table=self.told, goal=goal, world=world), True)
        self.same(goal_by_move(table=self.told, goal=goal, world=self.world, label=(1,)), False)
